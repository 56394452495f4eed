import PyProof.Rows.All
import Wide.All
import OpenK.AllK
import Wide.FinOn
import HandS.ForMost
import HandS.IsInst
import HandS.Conv
import HandS.DictComp
import HandS.Deep
import HandS.NoneIn
import HandS.Style
import HandS.TupAny
import HandS.OwnEq
import HandS.More
import HandS.Flow
import HandS.Codes
import HandS.Walk
import HandS.StrMore
import KE.GoesMore
import KE.GoesEnum
import HandS.Defaults
import HandS.IterNext
import HandS.IterVal
import KE.KOwnIter
import HandS.ExcInit
import HandS.ExcField
import HandS.WordsExc
import KE.KOpsOwn
import HandS.SetKeys
import HandS.Dict
import HandS.DictTup
import KE.KDictCopyH
import KE.KDictKeyed
import HandS.Comp
import HandS.Iter
import HandS.Wide
import HandS.List
import HandS.SetFor
import HandS.DeepEq
import PyProof.EqKinds
import PyProof.NeKinds
import HandS.Lambda
import HandS.ExcOwn
import HandS.Small
import PyProof.ExcBaseAll.ValueError
import HandS.Exc
import HandS.TryMany
import HandS.TupLe
import HandS.EndTab
import KE.KNestM
import PySem.Challenge.RW_turnsets_k41_whole_ways
set_option Elab.async false
set_option linter.all false

set_option maxRecDepth 100000
set_option maxHeartbeats 4000000
namespace Ts
open PySem L2
section
variable {X : Cx} {CX : CXT} {k : Nat} {f C : Addr} {fd : FuncData} {ps : List Str} {sp : Sp} {E : XK}
/-- a def of the text run below a builtin of this body -/
theorem run_at {A : Around} {pins : List (Addr × Obj)} {σ : St} {H : Hp} {s : Shared} {Q : VK} {us : List Value} {vs : List V} (F : FnOk X.prog X.w X.K X.mg X.base CX k f fd ps sp) (hr : Room k A) (hfr : A.frames = X.A.frames) (hb : Binds X.K fd ps []) (hx : Passes CX X E)
    (I : Inv X pins σ H s) (r : Vals vs us) (h : sp vs H Q E) : wpAny (model X.prog X.w) A (call (.ref f) us) (EP X pins σ Q) X.xe s := by
  have hl : us.length = ps.length := by rw [← r.length]; exact F.len _ _ _ _ h
  have e0 : Env0 X.prog X.w X.K X.mg X.base A X.stack s H := by
    have e := I.env0
    exact ⟨by rw [hfr]; exact e.frames, e.mod, e.bs, e.bsz, e.funs, e.frf, e.hok, e.bare⟩
  refine wpAny_call (codeAny_mono (F.run A X.stack s H ⟨us, []⟩ us vs Q E hr e0 (by
    have := hb s us I.kIn (by simpa using hl)
    simpa using this) r h) fun r s' hq => ?_)
  cases r with
  | error e => exact hx pins σ H s e s' I hq
  | ok fl =>
    cases fl with
    | ret u => exact I.after hq
    | next => exact False.elim hq
    | brk => exact False.elim hq
    | cont => exact False.elim hq
/-- x in o, o of an own class with its own look -/
def rInC (C : Addr) (sp : Sp) (E : XK) : R2 := fun x y H Q => ∃ a dx fs, y = .ref a ∧ H a = some (.ins C dx fs) ∧ sp [.ref a, x] H (fun v H' => ∃ b, v = .bl b ∧ Q (.bl b) H') E
def rNotInC (C : Addr) (sp : Sp) (E : XK) : R2 := fun x y H Q => ∃ a dx fs, y = .ref a ∧ H a = some (.ins C dx fs) ∧ sp [.ref a, x] H (fun v H' => ∃ b, v = .bl b ∧ Q (.bl (!b)) H') E
theorem op_inC (F : FnOk X.prog X.w X.K X.mg X.base CX k f fd ps sp) (m : Meth X.K C "__contains__" f) (hr : Room k X.A) (hb : Binds X.K fd ps []) (hx : Passes CX X E) : OpR X (compareOp .In) (rInC C sp E) := by
  intro pins s σ H x y v u Q I rx ry hq
  obtain ⟨a, dx, fs, rfl, ha, hsp⟩ := hq
  cases ry
  obtain ⟨mA, J, _⟩ := ins_get I.hok ha
  obtain ⟨od, J, _⟩ := J.look
  obtain ⟨mm, hF⟩ := I.fr
  refine PySem.W.in_K hF I.ok.mod.kin J m.at_ m.fn ?_
  refine wpAny_mono (run_at F hr rfl hb hx I (us := [.ref a, v]) (.cons (show RelV (.ref a) (.ref a) from rfl) (.cons rx .nil)) hsp) (fun r s' hq => ?_) fun _ _ x => x
  obtain ⟨z, H', I', rz, b, rfl, q⟩ := hq
  cases rz
  exact wpAny_truthy_bool ⟨.bl b, H', I', rfl, q⟩
theorem op_notinC (F : FnOk X.prog X.w X.K X.mg X.base CX k f fd ps sp) (m : Meth X.K C "__contains__" f) (hr : Room k X.A) (hb : Binds X.K fd ps []) (hx : Passes CX X E) : OpR X (compareOp .NotIn) (rNotInC C sp E) := by
  intro pins s σ H x y v u Q I rx ry hq
  obtain ⟨a, dx, fs, rfl, ha, hsp⟩ := hq
  cases ry
  obtain ⟨mA, J, _⟩ := ins_get I.hok ha
  obtain ⟨od, J, _⟩ := J.look
  obtain ⟨mm, hF⟩ := I.fr
  refine PySem.W.notIn_K hF I.ok.mod.kin J m.at_ m.fn ?_
  refine wpAny_mono (run_at F hr rfl hb hx I (us := [.ref a, v]) (.cons (show RelV (.ref a) (.ref a) from rfl) (.cons rx .nil)) hsp) (fun r s' hq => ?_) fun _ _ x => x
  obtain ⟨z, H', I', rz, b, rfl, q⟩ := hq
  cases rz
  exact wpAny_truthy_bool ⟨.bl (!b), H', I', rfl, q⟩
/-- len(o) -/
def rLenC (C : Addr) (sp : Sp) (E : XK) : List V → Hp → VK → Prop := fun xs H Q => ∃ a dx fs, xs = [.ref a] ∧ H a = some (.ins C dx fs) ∧ sp [.ref a] H (fun v H' => ∃ n : Int, v = .int n ∧ (0 ≤ n ∧ n < 2 ^ 63) ∧ Q (.int n) H') E
theorem call_lenC (F : FnOk X.prog X.w X.K X.mg X.base CX k f fd ps sp) (m : Meth X.K C "__len__" f) (hr : Room (k + 1) X.A) (hb : Binds X.K fd ps []) (hx : Passes CX X E) : CallR X (.builtin "len") (rLenC C sp E) := by
  intro pins s σ H xs us Q I r hq
  obtain ⟨a, dx, fs, rfl, ha, hsp⟩ := hq
  obtain ⟨u, rfl, ru⟩ := vals1 r
  cases ru
  obtain ⟨mA, J, _⟩ := ins_get I.hok ha
  obtain ⟨od, J, _⟩ := J.look
  obtain ⟨mm, hF⟩ := I.fr
  refine PySem.W.len_K hF I.ok.mod.kin J m.at_ m.fn ?_
  refine wpAny_mono (run_at F hr.in1 rfl hb hx I (us := [.ref a]) (.cons (show RelV (.ref a) (.ref a) from rfl) .nil) hsp) (fun r s' hq => ?_) fun _ _ x => x
  obtain ⟨z, H', I', rz, n, rfl, hn, q⟩ := hq
  obtain ⟨t, rfl⟩ := rz
  exact ⟨hn, .int n, H', I'.tok _, ⟨_, rfl⟩, q⟩
/-- the sort of a value, as == wants to know it -/
inductive TyE (H : Hp) : V → Value → Prop where
  | non : TyE H .non (.type "NoneType")
  | bl (x : Bool) : TyE H (.bl x) (.type "bool")
  | int (i : Int) : TyE H (.int i) (.type "int")
  | str (x : Str) : TyE H (.str x) (.type "str")
  | lst {a : Addr} {xs : List V} (e : H a = some (.lst xs)) : TyE H (.ref a) (.type "list")
  | tup {a : Addr} {xs : List V} (e : H a = some (.tup xs)) : TyE H (.ref a) (.type "tuple")
  | dK {a : Addr} {kvs : List (Key × V)} (e : H a = some (.dK kvs)) : TyE H (.ref a) (.type "dict")
  | ins {a C dx : Addr} {fs : List (Str × V)} (e : H a = some (.ins C dx fs)) : TyE H (.ref a) (.ref C)
theorem ty_looks {pins : List (Addr × Obj)} {σ : St} {H : Hp} {s : Shared} {y : V} {u tb : Value} (I : Inv X pins σ H s) (r : RelV y u) (ty : TyE H y tb) : PySem.W.Looks (model X.prog X.w) s.heap (typeOf u) tb := by
  have lk : ∀ {a : Addr} {o : Obj} {c : Value}, s.heap.get? a = some o → o.cls = c → PySem.W.Looks (model X.prog X.w) s.heap (typeOf (.ref a)) c := fun {a o c} e h => h ▸ (PySem.W.Looks.ld e).andThen .now
  cases ty with
  | non => cases (show u = Value.none from r); exact PySem.W.Looks.of_pure rfl
  | bl y => cases (show u = Value.bool y from r); exact PySem.W.Looks.of_pure rfl
  | int i => obtain ⟨t, q⟩ := (show ∃ t, u = Value.int i t from r); cases q; exact PySem.W.Looks.of_pure rfl
  | str y => obtain ⟨t, q⟩ := (show ∃ t, u = Value.str y t from r); cases q; exact PySem.W.Looks.of_pure rfl
  | @lst a xs ea =>
    cases (show u = Value.ref a from r)
    obtain ⟨_, _, n, _, h1⟩ := (show ObjOk X.prog X.w H s.heap a (.lst xs) from I.hok a _ ea)
    exact lk h1 rfl
  | @tup a xs ea =>
    cases (show u = Value.ref a from r)
    obtain ⟨_, _, _, o, h1, h2, _⟩ := (show ObjOk X.prog X.w H s.heap a (.tup xs) from I.hok a _ ea)
    exact lk h1 h2
  | @dK a kvs ea =>
    cases (show u = Value.ref a from r)
    obtain ⟨_, _, vs, _, o, es, ep, h1, h2, _⟩ := (show ObjOk X.prog X.w H s.heap a (.dK kvs) from I.hok a _ ea)
    exact lk h1 h2.1
  | @ins a C dx fs ea =>
    cases (show u = Value.ref a from r)
    obtain ⟨mA, J, _⟩ := ins_get I.hok ea
    obtain ⟨od, J, _⟩ := J.look
    exact J.type
/-- o == y -/
def rEqC (K : PySem.W.Frag) (C : Addr) (sp : Sp) (E : XK) : R2 := fun x y H Q => ∃ a dx fs tb, x = .ref a ∧ H a = some (.ins C dx fs) ∧ TyE H y tb ∧ PySem.W.notFirst K C tb = true ∧ sp [.ref a, y] H (fun v H' => ∃ b, v = .bl b ∧ Q (.bl b) H') E
def rNeC (K : PySem.W.Frag) (C : Addr) (sp : Sp) (E : XK) : R2 := fun x y H Q => ∃ a dx fs tb, x = .ref a ∧ H a = some (.ins C dx fs) ∧ TyE H y tb ∧ PySem.W.notFirst K C tb = true ∧ sp [.ref a, y] H (fun v H' => ∃ b, v = .bl b ∧ Q (.bl (!b)) H') E
theorem op_eqC (F : FnOk X.prog X.w X.K X.mg X.base CX k f fd ps sp) (m : Meth X.K C "__eq__" f) (hr : Room k X.A) (hb : Binds X.K fd ps []) (hx : Passes CX X E) : OpR X (compareOp .Eq) (rEqC X.K C sp E) := by
  intro pins s σ H x y v u Q I rx ry hq
  obtain ⟨a, dx, fs, tb, rfl, ha, ty, hn, hsp⟩ := hq
  cases rx
  obtain ⟨mA, J, _⟩ := ins_get I.hok ha
  obtain ⟨od, J, _⟩ := J.look
  obtain ⟨mm, hF⟩ := I.fr
  show wpAny (model X.prog X.w) X.A (richCompare .Eq _ u) (EP X pins σ Q) X.xe s
  refine PySem.W.cmp_K (op := .Eq) (tb := tb) hr.units0 hF I.ok.mod.kin J (ty_looks I ry ty) hn m.at_ m.fn ?_
  refine wpAny_mono (run_at F hr rfl hb hx I (us := [.ref a, u]) (.cons (show RelV (.ref a) (.ref a) from rfl) (.cons ry .nil)) hsp) (fun r s' hq => ?_) fun _ _ x => x
  obtain ⟨z, H', I', rz, b, rfl, q⟩ := hq
  cases rz
  exact ⟨.bl b, H', I', rfl, q⟩
section
open PySem.W
open PyProof.Rows (Fr)
variable {prog : Program} {w : World} {A : Around} {E : Value → Shared → Prop} {s : Shared} {K : Frag} {h₀ : Heap} {L : Addr} {m : Str → Option Value} {x f C : Addr} {ox : Obj} {od : Option Obj} {b tb : Value}
theorem ne_own_K {Q : Value → Shared → Prop} (hu : A.units + 1 < cLine) (F : Fr h₀ L s.heap m) (X₀ : K.In h₀) (I : InstAt s.heap x ox C od) (hb : Looks (model prog w) s.heap (typeOf b) tb) (hn : notFirst K C tb = true)
    (hne : findIn K (.ref C) "__ne__" = some (some (.builtin "object.__ne__"))) (hs : findIn K (.ref C) "__eq__" = some (some (.ref f))) (hf : isFn K (.ref f) = true) (ho : subIn K (.ref C) (.type "object") = some true)
    (h : wpAny (model prog w) A.in1 (call (.ref f) [.ref x, b]) (fun v s' => ∃ r, v = .bool r ∧ Q (.bool (!r)) s') E s) : wpAny (model prog w) A (richCompare .NotEq (.ref x) b) Q E s := by
  have X := X₀.keeps F.keep
  have body : wpAny (model prog w) A.in1 (Builtin.«object.__ne__» ⟨[.ref x, b], []⟩) (GQ.FinOf prog w A (wants (fun v s' => ∃ r, v = .bool r ∧ Q v s') E)) (fun e s' => wants (fun v s' => ∃ r, v = .bool r ∧ Q v s') E (.error e) s') s := by
    unfold Builtin.«object.__ne__»
    repeat (first
      | with_reducible refine wpAny_cRoomFor hu ?_
      | (refine wpAny_bind (m := callSpecialIfBound? (.ref x) (Str.ofString "__eq__") [b]) (ifBound_K X I hs hf (wpAny_mono h (fun r s' hr => by
          obtain ⟨r, rfl, hq⟩ := hr
          repeat (first | exact ⟨_, rfl, hq⟩ | exact wpAny_pure ⟨_, rfl, hq⟩ | (refine wpAny_bind (m := truthy (.bool _)) (wpAny_truthy_bool ?_)) | wp_step)) fun _ _ e => e)))
      | wp_step)
  have bind : bindSpecial (.builtin "object.__ne__") (.ref x) = pure (.builtin "object.__ne__", [.ref x]) := PySem.F.cmp_object.ne.bind (.ref x)
  have one : wpAny (model prog w) A (tryCompare (.ref x) "__ne__" b) (fun r s' => ∃ v, r = some v ∧ Q v s') E s := by
    unfold tryCompare
    refine wpAny_bind ?_
    simp only [callSpecialIfBound?, bindSpecialIfBound?]
    refine wpAny_holding (wpAny_bind (wpAny_bind (wpAny_bind (I.type.here ((looks_findIn X hne).here ?_)))))
    have fin : wpAny (model prog w) A (call (.builtin "object.__ne__") ([.ref x] ++ [b])) (fun v s' => ∃ r, v = .bool r ∧ Q v s') E s :=
      wpAny_call (codeAny_call_builtin PySem.F.cmp_object.ne.plain PySem.F.cmpEntry_ne (check_slot PySem.F.cmpKind_ne PySem.F.cmpSplit_ne (I.type.andThen (looks_subIn X ho)) (PySem.F.cmpArgs_ne _ _) body))
    simp only [bind]
    refine wpAny_bind (wpAny_askSetting (wpAny_ite ?_))
    split
    · refine wpAny_bind (wpAny_pure (wpAny_pure ?_))
      refine wpAny_bind (wpAny_mono fin (fun v s' z => ?_) fun _ _ e => e)
      obtain ⟨r, rfl, q⟩ := z
      refine wpAny_pure ?_
      exact wpAny_pure ⟨_, rfl, q⟩
    · refine wpAny_tryCatch (wpAny_bind (wpAny_pure (wpAny_pure ?_)))
      refine wpAny_bind (wpAny_mono fin (fun v s' z => ?_) fun _ _ e => e)
      obtain ⟨r, rfl, q⟩ := z
      refine wpAny_pure ?_
      exact wpAny_pure ⟨_, rfl, q⟩
  unfold richCompare
  simp only [oneThing_ref]
  refine wpAny_holding (wpAny_bind (wpAny_cRoomFor (Nat.lt_of_succ_lt hu) ?_))
  refine wpAny_bind (I.type.here (wpAny_bind (hb.here ?_)))
  split
  · rename_i q
    have e : subIn K tb (.ref C) = some false := by
      rcases Bool.or_eq_true_iff.mp hn with e | e
      · rw [beq_iff_eq.mp e] at q; simp at q
      · exact beq_iff_eq.mp e
    refine wpAny_bind ((looks_subIn X e).here ?_)
    simp only [Bool.false_eq_true, if_false]
    refine wpAny_bind (wpAny_mono one (fun r s' z => ?_) fun _ _ e => e)
    obtain ⟨v, rfl, hq⟩ := z
    exact wpAny_pure hq
  · refine wpAny_bind (wpAny_pure ?_)
    simp only [Bool.false_eq_true, if_false]
    refine wpAny_bind (wpAny_mono one (fun r s' z => ?_) fun _ _ e => e)
    obtain ⟨v, rfl, hq⟩ := z
    exact wpAny_pure hq
end
section
variable {X : Cx} {CX : CXT} {k : Nat} {f C : Addr} {fd : FuncData} {ps : List Str} {sp : Sp} {E : XK}
theorem op_neC (F : FnOk X.prog X.w X.K X.mg X.base CX k f fd ps sp) (m : Meth X.K C "__eq__" f) (hne : PySem.W.findIn X.K (.ref C) "__ne__" = some (some (.builtin "object.__ne__"))) (ho : PySem.W.subIn X.K (.ref C) (.type "object") = some true) (hr : Room (k + 1) X.A) (hb : Binds X.K fd ps []) (hx : Passes CX X E) : OpR X (compareOp .NotEq) (rNeC X.K C sp E) := by
  intro pins s σ H x y v u Q I rx ry hq
  obtain ⟨a, dx, fs, tb, rfl, ha, ty, hn, hsp⟩ := hq
  cases rx
  obtain ⟨mA, J, _⟩ := ins_get I.hok ha
  obtain ⟨od, J, _⟩ := J.look
  obtain ⟨mm, hF⟩ := I.fr
  show wpAny (model X.prog X.w) X.A (richCompare .NotEq _ u) (EP X pins σ Q) X.xe s
  refine ne_own_K (tb := tb) (by have := hr.un; omega) hF I.ok.mod.kin J (ty_looks I ry ty) hn hne m.at_ m.fn ho ?_
  refine wpAny_mono (run_at F hr.in1 rfl hb hx I (us := [.ref a, u]) (.cons (show RelV (.ref a) (.ref a) from rfl) (.cons ry .nil)) hsp) (fun r s' hq => ?_) fun _ _ x => x
  obtain ⟨z, H', I', rz, b, rfl, q⟩ := hq
  cases rz
  exact ⟨b, rfl, .bl (!b), H', I', rfl, q⟩
end
end
end Ts

set_option maxRecDepth 100000
set_option maxHeartbeats 4000000
namespace Ts
open PySem L2
/-! ### enumerate(tuple) -/
set_option maxHeartbeats 4000000 in
theorem meets_enum_T (t : Addr) (its : Array Value) :
    Meets (Builtin.«enumerate.__new__» ⟨[.type "enumerate", .ref t], []⟩) (fun _ R s => s.heap.IsTuple t its ∧
      R (.ok (.ret (.ref (s.heap.push { cls := .type "tuple_iterator", data := .fields #[.ref t, .int 0 0] }).objs.size)))
        { s with heap := (s.heap.push { cls := .type "tuple_iterator", data := .fields #[.ref t, .int 0 0] }).push { cls := .type "enumerate", data := .fields #[.none, .bool false, .ref s.heap.objs.size, rawInt 0, .none, .none] } }) :=
  .of_wp fun prog w A R s h => by
    obtain ⟨hp, g, d, tk, os⟩ := s
    obtain ⟨hT, h⟩ := h
    have hsub := sub_enumerate
    wp_walk
    refine wpAny_stack_any fun st => wpAny_pure ?_
    split
    · rename_i c _ _ _ _ _
      cases (c == Value.type "enumerate")
      · wp_walk using wpAny_pyIter_tuple hT
        exact ⟨_, rfl, h⟩
      · wp_walk using wpAny_pyIter_tuple hT
        exact ⟨_, rfl, h⟩
    · wp_walk using wpAny_pyIter_tuple hT
      exact ⟨_, rfl, h⟩

section
variable {prog : Program} {w : World} {A : Around} {E : Value → Shared → Prop} {s : Shared}
theorem call_enum_T {t : Addr} {its : Array Value} {Q : Value → Shared → Prop} (hT : s.heap.IsTuple t its)
    (k : ∀ g, IsEnum g (s.heap.objs.size + 1) s.heap.objs.size 0 .none → g.IsTupleIter s.heap.objs.size t 0 → (∀ b o, s.heap.get? b = some o → g.get? b = some o) → Q (.ref (s.heap.objs.size + 1)) { s with heap := g }) :
    wpAny (model prog w) A (call (.type "enumerate") [.ref t]) Q E s := by
  refine callType_new F.called_enumerate (by decide) (F.typeCall_enumerate_1 _) (F.newCall_enumerate_1 _) (fun o => F.args_object_init_2 o _) F.entry_enumerate_new (meets_enum_T t its) ⟨hT, ?_⟩
  have z : (s.heap.push { cls := .type "tuple_iterator", data := .fields #[.ref t, .int 0 0] }).objs.size = s.heap.objs.size + 1 := Heap.size_push ..
  show _ ∧ _
  rw [z]
  have en : IsEnum ((s.heap.push { cls := .type "tuple_iterator", data := .fields #[.ref t, .int 0 0] }).push { cls := .type "enumerate", data := .fields #[.none, .bool false, .ref s.heap.objs.size, rawInt 0, .none, .none] }) (s.heap.objs.size + 1) s.heap.objs.size 0 .none := by
    have q := Heap.get?_push_size (s.heap.push { cls := .type "tuple_iterator", data := .fields #[.ref t, .int 0 0] }) (o := { cls := .type "enumerate", data := .fields #[.none, .bool false, .ref s.heap.objs.size, rawInt 0, .none, .none] }) rfl
    rw [z] at q
    exact q
  exact ⟨⟨_, en, rfl⟩, k _ en ⟨_, Heap.get?_push_of_some _ (Heap.get?_push_size _ rfl), rfl, rfl⟩ fun b o y => Heap.get?_push_of_some _ (Heap.get?_push_of_some _ y)⟩
end
/-- the tuple at a as it stands at each turn, each item in a new pair -/
def IteT (K : PySem.W.Frag) (a : Addr) : It :=
  ⟨fun i H => ∃ (xs : List V) (x : V), SqT K H a xs ∧ xs[i]? = some x, fun i H v H' => ∃ T x, v = .ref T ∧ H T = none ∧ H' = upd H T (.tup [.int (i : Nat), x]) ∧ ∀ xs, SqT K H a xs → xs[i]? = some x, fun i H => ∃ xs : List V, SqT K H a xs ∧ xs.length = i⟩
theorem turn_enumT {P : Program} {w : World} {K : PySem.W.Frag} {elts : List Expr} {kk : Nat} {tpos : Pos} (a e it : Addr) :
    Turn P w K (.Tuple elts kk tpos) (IteT K a) [e, it] e (fun i h => (∃ old, IsEnum h e it ((i : Nat) : Int) old) ∧ h.IsTupleIter it a i ∧ e ≠ it ∧ a ≠ it ∧ e ≠ a) where
  mem := by simp
  obj := fun i h st b hb => by
    obtain ⟨⟨old, en⟩, ⟨o, ho, hc, hd⟩, _⟩ := st
    rcases (show b = e ∨ b = it by simpa using hb) with z | z
    · rw [z]; exact ⟨_, en, fun v q => nomatch q⟩
    · rw [z]; exact ⟨o, ho, fun v q => by rw [hd] at q; cases q⟩
  keep := fun i h h' st k => let ⟨⟨old, en⟩, hi, r⟩ := st; ⟨⟨old, k e (by simp) _ en⟩, hi.at fun o y => k it (by simp) o y, r⟩
  item := by
    intro X hP hw hK hc i pins s σ H E I hf st hg
    subst hP hw hK
    obtain ⟨⟨old, en⟩, hit, hne, hai, hea⟩ := st
    obtain ⟨xs, x, hq, hx⟩ := hg
    obtain ⟨its, rv, p, hz⟩ := I.tuple hq
    obtain ⟨u, hu, ru⟩ := rv.get hx
    have pT : s.heap.IsTuple a its.toArray := p
    have hil : i < its.toArray.size := by
      have q := (List.getElem?_eq_some_iff.mp hu).1
      simpa using q
    have l1 : e < s.heap.objs.size := Heap.lt_size en
    have l2 : it < s.heap.objs.size := by obtain ⟨_, q, _⟩ := hit; exact Heap.lt_size q
    have hh1 : X.A.in1.handled = none := I.ok.hd hc
    refine wpAny_pyNext_enum_itemD (Draws.tuple hh1 it a hai its.toArray) en ⟨hit, pT⟩ hil hne (by simp [hne, hea]) fun x' g tk hx' ho st' hT hsz hk => ?_
    have ex : x' = u := by
      have q : its.toArray[i]? = some u := by simpa using hu
      rw [q] at hx'
      exact (Option.some.inj hx').symm
    subst ex
    refine ⟨_, rfl, wpAny_letOwnedTupleGo_enum (s := { s with heap := g, toks := tk + 1 }) ho fun g2 he' sb => ?_⟩
    have hT2 : g2.get? s.heap.objs.size = some { cls := .type "tuple", data := .seq #[.int i tk, x'] } := (sb.2 _ (Nat.ne_of_gt l1)).trans hT
    have new : ObjOk X.prog X.w (upd H s.heap.objs.size (.tup [.int (i : Nat), x])) g2 s.heap.objs.size (.tup [.int (i : Nat), x]) :=
      ⟨by show 2 ≤ sizeLine; decide, [.int i tk, x'], .cons ⟨_, rfl⟩ (.cons ru .nil), ⟨_, hT2, rfl, _, rfl⟩⟩
    have I1 : Inv X pins σ (upd H s.heap.objs.size (.tup [.int (i : Nat), x])) { s with heap := g2, toks := tk + 1 } :=
      I.turnedNew (ch := [e, it]) (fun b o hb y => (sb.2 b (fun z => hb (by simp [z]))).trans (hk b o (fun z => hb (by simp [z])) (fun z => hb (by simp [z])) y)) hf (Nat.le_refl _) new
    refine ⟨.ref s.heap.objs.size, _, I1, rfl, ⟨_, x, rfl, I.hok.fresh (Nat.le_refl _), rfl, fun ys hy => by rw [I.tuple_inj hy hq]; exact hx⟩, ⟨⟨x', ?_⟩, st'.1.at fun o y => (sb.2 it (Ne.symm hne)).trans y, hne, hai, hea⟩, fun b hb => ?_⟩
    · rw [show ((i + 1 : Nat) : Int) = (i : Int) + 1 by omega]
      exact he'
    · have lb : b < s.heap.objs.size := by
        rcases (show b = e ∨ b = it by simpa using hb) with z | z
        · rw [z]; exact l1
        · rw [z]; exact l2
      rw [upd_ne (Nat.ne_of_lt lb)]
      exact (hf b hb).1
  done := by
    intro X hP hw hK hc i pins s σ H E I hf st hg
    subst hP hw hK
    obtain ⟨⟨old, en⟩, hit, hne, hai, hea⟩ := st
    obtain ⟨xs, hq, hx⟩ := hg
    obtain ⟨its, rv, p, hz⟩ := I.tuple hq
    have pT : s.heap.IsTuple a its.toArray := p
    have hh1 : X.A.in1.handled = none := I.ok.hd hc
    have ei : its.toArray.size = i := by rw [← hx, rv.length]; simp
    obtain ⟨f0, f1, f2, f3, f4, f5⟩ := hf it (by simp)
    refine wpAny_pyNext_enum_endD (Draws.tuple hh1 it a hai its.toArray) en (by rw [ei]; exact ⟨hit, pT⟩) fun g eb => ⟨rfl, I.turned (t' := s.toks) (fun b o hb y => eb b o hb y) f0 f1 f3 f4 f5⟩
  self := fun A i s Q E st h => let ⟨⟨_, en⟩, _⟩ := st; wpAny_pyIter_enum en h
def iEnumT (K : PySem.W.Frag) (ta : TA) : TI := fun σ H R => ta σ H fun vs H1 => ∃ a xs, vs = [.ref a] ∧ SqT K H1 a xs ∧ R (IteT K a) H1
theorem pi_enumT {X : Cx} {e : Expr} {ta : TA} {p pos tpos : Pos} {elts : List Expr} {kk : Nat} (hg : Gl X "enumerate") (hm : X.mg "enumerate" = none) (ha : PA X [e] ta) (hs : starEach [e] X.env = [(false, eval e X.env)] := by rfl) :
    PI X (.Tuple elts kk tpos) (.Call (.Name "enumerate" p) [e] [] pos) (iEnumT X.K ta) := by
  refine ⟨fun pins s σ H R I h => ?_⟩
  refine wpAny_Call_Name_kw (ld_blt I hg hm PyProof.Rows.boot_enumerate (PyProof.Rows.callWith_type1 (thn (ha.run pos pins s σ H _ I h) fun us s1 z => ?_) hs rfl))
  obtain ⟨vs, H1, I1, r1, a, xs, ex, hq, q⟩ := z
  subst ex
  obtain ⟨u, rfl, ru⟩ := vals1 r1
  cases ru
  obtain ⟨its, rv, p', hz⟩ := I1.tuple hq
  have pT : s1.heap.IsTuple a its.toArray := p'
  obtain ⟨oa, hoa, _⟩ := id pT
  have la : a < s1.heap.objs.size := Heap.lt_size hoa
  refine call_enum_T pT fun g en hit hk => wpAny_pyIter_enum en ?_
  have I2 : Inv X pins σ H1 { s1 with heap := g } := I1.kept (t' := s1.toks) hk
  refine ⟨s1.heap.objs.size + 1, [s1.heap.objs.size + 1, s1.heap.objs.size], _, _, H1, rfl, I2, turn_enumT a (s1.heap.objs.size + 1) s1.heap.objs.size, ⟨⟨.none, en⟩, hit, Nat.succ_ne_self _, Nat.ne_of_lt la, Nat.ne_of_gt (Nat.lt_succ_of_lt la)⟩, fun b hb => ?_, q⟩
  have ge : s1.heap.objs.size ≤ b := by
    rcases (show b = s1.heap.objs.size + 1 ∨ b = s1.heap.objs.size by simpa using hb) with z | z
    · rw [z]; exact Nat.le_add_right _ _
    · rw [z]; exact Nat.le_refl _
  exact I1.fpOk ge (I1.hok.fresh ge)
theorem walk_enumT {K : PySem.W.Frag} {a : Addr} {xs : List V} : Walk (IteT K a) xs.length (fun H => SqT K H a xs) (YPair (fun i => some (.int (i : Nat))) (fun i => xs[i]?)) := by
  refine ⟨fun i _ hi q => ⟨xs, xs[i], q, by simp [hi]⟩, fun _ q => ⟨xs, q, rfl⟩, fun i H v H' _ q y => ?_⟩
  obtain ⟨T, x, y1, y2, y3, y4⟩ := y
  exact ⟨T, .int (i : Nat), x, y1, y2, y3, rfl, y4 xs q⟩
/-! ### one rule or another -/
section
variable {X : Cx} {e : Expr}
theorem pe_or' {t u : TE} (a : PE X e t) (b : PE X e u) : PE X e (fun σ H Q => t σ H Q ∨ u σ H Q) := ⟨fun pins s σ H Q I h => h.elim (a.run pins s σ H Q I) (b.run pins s σ H Q I)⟩
theorem pg_or {t u : TG} (a : PG X e t) (b : PG X e u) : PG X e (fun v σ H Q => t v σ H Q ∨ u v σ H Q) := ⟨fun pins s σ H v w Q I r h => h.elim (a.run pins s σ H v w Q I r) (b.run pins s σ H v w Q I r)⟩
theorem pi_or {tg : Expr} {t u : TI} (a : PI X tg e t) (b : PI X tg e u) : PI X tg e (fun σ H R => t σ H R ∨ u σ H R) := ⟨fun pins s σ H R I h => h.elim (a.run pins s σ H R I) (b.run pins s σ H R I)⟩
theorem op_or' {f : Value → Value → Sem Value} {r q : R2} (a : OpR X f r) (b : OpR X f q) : OpR X f (fun x y H Q => r x y H Q ∨ q x y H Q) := fun pins s σ H x y v u Q I rx ry h => h.elim (a pins s σ H x y v u Q I rx ry) (b pins s σ H x y v u Q I rx ry)
theorem ps_or {st : Stmt} {t u : TS} (a : PS X st t) (b : PS X st u) : PS X st (fun D σ H => t D σ H ∨ u D σ H) := ⟨fun pins s σ H D I h => h.elim (a.run pins s σ H D I) (b.run pins s σ H D I)⟩
theorem call_or {f : Value} {r q : List V → Hp → VK → Prop} (a : CallR X f r) (b : CallR X f q) : CallR X f (fun xs H Q => r xs H Q ∨ q xs H Q) := fun pins s σ H xs us Q I rv h => h.elim (a pins s σ H xs us Q I rv) (b pins s σ H xs us Q I rv)
end
end Ts

set_option maxRecDepth 100000
set_option maxHeartbeats 4000000
namespace Ts
open PySem L2
section
variable {X : Cx}
/-- a local takes a dict comprehension on one line -/
theorem ps_setDc {i : Nat} {y : Str} {py : Pos} {kx vx tg iter : Expr} {ifs : List Expr} {scope : Scope} {own : List (Str × Nat)} {pos spos : Pos} {wi : TI} {g : TG} {tt : TT} {tk tv : TE} (hc : X.calm = true) (hN : X.N.Nodup) (hy : X.N[i]? = some y) (hyl : X.env.scope.names.lookup y = some .local)
    (hsw : swapsWith (.DictComp kx vx [⟨tg, iter, ifs, 0⟩] scope pos) (some (.Name y py)) spos.line X.env = pure true) (hi : PI X tg iter wi) (ok : BlkOk X.N X.env.scope scope own)
    (hg : ∀ (s : Shared) (H : Hp) (C : Addr) (cl : List (Str × Addr)) (fp : List Addr), PG (X.blk s H scope (compEnvC scope cl C X.env) fp) tg g) (ht : ∀ (s : Shared) (H : Hp) (C : Addr) (cl : List (Str × Addr)) (fp : List Addr), PTs (X.blk s H scope (compEnvC scope cl C X.env) fp) ifs tt)
    (hk : ∀ (s : Shared) (H : Hp) (C : Addr) (cl : List (Str × Addr)) (fp : List Addr), PE (X.blk s H scope (compEnvC scope cl C X.env) fp) kx tk)
    (he : ∀ (s : Shared) (H : Hp) (C : Addr) (cl : List (Str × Addr)) (fp : List Addr), PE (X.blk s H scope (compEnvC scope cl C X.env) fp) vx tv) (hs : ∀ x, foldedSetIterable iter X.env x = pure x := by intro _; rfl) :
    PS X (.Assign [.Name y py] (.DictComp kx vx [⟨tg, iter, ifs, 0⟩] scope pos) spos) (tAsg (tDc wi g tt tk tv (own.map (·.2))) (gName i)) := by
  refine ⟨fun pins s σ H D I h => ?_⟩
  rw [exec_Assign_Name_used _ _ _ _ hsw]
  refine wpAny_bind (wpAny_standAt (wpAny_bind ?_))
  show wpAny _ X.A (do let _ ← comprehension (.DictComp kx vx [⟨tg, iter, ifs, 0⟩] scope pos) scope X.env (firstIterPos [⟨tg, iter, ifs, 0⟩] pos) newDict false (eval iter X.env) (some (assign (.Name y py) X.env))) _ _ s
  have h' : tDc wi g tt tk tv (own.map (·.2)) σ H (fun x H1 => gName i x σ H1 D.nx) := h
  refine wpAny_bind (thn (dc_core (Qf := fun _ s' => SP X pins D .next s') hc hN I hi ok hg ht hk he hs h' fun L C s' m H' I' q hn f => ?_) fun _ s' z => wpAny_pure (wpAny_pure z))
  show wpAny _ _ (assign (.Name y py) X.env (.ref L)) _ _ _
  refine wpAny_assign_Name (store_ok2 (v := V.ref L) I' hN hy (.inl hyl) rfl (fun s2 I2 ⟨a, sb, za⟩ => ?_) (.inr hyl))
  obtain ⟨f0, f1, f2, f3, f4, f5⟩ := f
  have ca : C ≠ a := by
    rcases za with z | z
    · rw [z]; exact f1
    · exact fun e => f4 y a z e.symm
  refine ⟨m, hn.sameBut sb ca, fun h3 sb3 => ?_⟩
  exact ⟨_, H', I2.turned (t' := s2.toks) (fun b o hb e => (sb3.2 b hb).trans e) f0 f1 f3 f4 f5, q⟩
theorem swd_true {kx vx : Expr} {gs : List Comprehension} {scope : Scope} {pos py : Pos} {y : Str} {l : Nat} {env : Env} (hk : env.scope.kind = .function) (hy : env.scope.names.lookup y = some .local) (hl : (py.line == pos.line) = true)
    (ha : (scope.names.any fun (n, k) => n == y && (k == .local || k == .cell)) = false) : swapsWith (.DictComp kx vx gs scope pos) (some (.Name y py)) l env = pure true := by
  have k1 : env.kindOf y = some .local := hy
  have k2 : env.blockKind = .function := by unfold Env.blockKind; rw [hk]; rfl
  unfold swapsWith
  simp only [k1, k2, ha, Expr.pos, hl]
  rfl
/-- a dict comprehension over what walks -/
theorem dc_it {J : It} {n : Nat} {G : Hp → Prop} {Y : Nat → Hp → V → Hp → Prop} (w : Walk J n G Y) {g : TG} {tt : TT} {tk tv : TE} {vs : List Nat} {σ : St} {H1 : Hp} {D : Addr} {Qd : Hp → Prop} (Pv : Nat → Hp → Prop) (h0 : Pv 0 (upd H1 D (.dK []))) (hG : ∀ i H, i ≤ n → Pv i H → G H)
    (hs : ∀ i x H H', i < n → Pv i H → Y i H x H' → g x (wipe σ vs) H' fun σ2 H2 => wipe σ2 vs = wipe σ vs ∧ tt σ2 H2 fun b H3 =>
      if b = true then tk σ2 H3 fun y H4 => tv σ2 H4 fun z H5 => ∃ kvs k, y = kV k ∧ H5 D = some (.dK kvs) ∧ kvs.length < sizeLine ∧ Pv (i + 1) (upd H5 D (.dK (putK kvs k z))) else Pv (i + 1) H3) (hd : ∀ H, Pv n H → Qd H) :
    ∃ W : Nat → Nat → Hp → Prop, (∃ m, W 0 m (upd H1 D (.dK []))) ∧ ∀ i m H, W i m H →
      (J.stop i H ∧ Qd H) ∨ (J.go i H ∧ ∃ Nx : Hp → Prop, (∀ H', Nx H' → ∃ m', m' < m ∧ W (i + 1) m' H') ∧ ∀ x H', J.yld i H x H' → g x (wipe σ vs) H' fun σ2 H2 => wipe σ2 vs = wipe σ vs ∧ tt σ2 H2 fun b H3 =>
        if b = true then tk σ2 H3 fun y H4 => tv σ2 H4 fun z H5 => ∃ kvs k, y = kV k ∧ H5 D = some (.dK kvs) ∧ kvs.length < sizeLine ∧ Nx (upd H5 D (.dK (putK kvs k z))) else Nx H3) := by
  refine ⟨fun i m H => m = n - i ∧ i ≤ n ∧ Pv i H, ⟨n, by simp, Nat.zero_le _, h0⟩, ?_⟩
  rintro i m H ⟨rfl, le, p⟩
  have q := hG i H le p
  by_cases lt : i < n
  · exact .inr ⟨w.goes i H lt q, Pv (i + 1), fun H' p' => ⟨n - (i + 1), by omega, rfl, lt, p'⟩, fun x H' y => hs i x H H' lt p (w.yields i H x H' lt q y)⟩
  · obtain rfl : i = n := by omega
    exact .inl ⟨w.stops H q, hd H p⟩
end
end Ts

set_option maxRecDepth 100000
namespace Ts
open PySem L2
def top (i : Nat) : Stmt := PySem.Challenge.pw_turnsets_k41_whole_ways.main.body.getD i (.Pass ⟨0, 0, 0, 0⟩)
abbrev s__wall : Stmt := top 0
abbrev s_BadRow_init : Stmt := inClass (top 3) 0
abbrev s_NoBox_init : Stmt := inClass (top 4) 0
abbrev s_Locked_init : Stmt := inClass (top 6) 0
abbrev s_BadWish_init : Stmt := inClass (top 8) 0
abbrev s_Barred_init : Stmt := inClass (top 9) 0
abbrev s_BadNumber_init : Stmt := inClass (top 10) 0
abbrev s_TooDear_init : Stmt := inClass (top 11) 0
abbrev s_is_name : Stmt := top 17
abbrev s_is_number : Stmt := top 18
abbrev s_is_price : Stmt := top 19
abbrev s_is_row : Stmt := top 20
abbrev s_check_rows : Stmt := top 21
abbrev s_check_box : Stmt := top 22
abbrev s_is_place : Stmt := top 23
abbrev s_check_place : Stmt := top 24
abbrev s_Tree_init : Stmt := inClass (top 25) 0
abbrev s_Tree_eq : Stmt := inClass (top 25) 1
abbrev s_Tree_len : Stmt := inClass (top 25) 2
abbrev s_Tree_contains : Stmt := inClass (top 25) 3
abbrev s_Tree_rows : Stmt := inClass (top 25) 4
abbrev s_Tree_folder : Stmt := inClass (top 25) 5
abbrev s_Tree_kind : Stmt := inClass (top 25) 6
abbrev s_Tree_price : Stmt := inClass (top 25) 7
abbrev s_Tree_inside : Stmt := inClass (top 25) 8
abbrev s_Tree_below : Stmt := inClass (top 25) 9
abbrev s_Tree_way : Stmt := inClass (top 25) 10
abbrev s_Tree_steps : Stmt := inClass (top 25) 11
abbrev s_Tree_more : Stmt := inClass (top 25) 12
abbrev s_Tree_less : Stmt := inClass (top 25) 13
abbrev s_Tree_moved : Stmt := inClass (top 25) 14
abbrev s_Tree_opened : Stmt := inClass (top 25) 15
abbrev s_check_turns : Stmt := top 27
abbrev s_check_trees : Stmt := top 28
abbrev s_values_of : Stmt := top 29
abbrev s_with_values : Stmt := top 30
abbrev s_Meaning_init : Stmt := inClass (top 31) 0
abbrev s_Meaning_eq : Stmt := inClass (top 31) 1
abbrev s_Meaning_len : Stmt := inClass (top 31) 2
abbrev s_Meaning_iter : Stmt := inClass (top 31) 3
abbrev s_Meaning_contains : Stmt := inClass (top 31) 4
abbrev s_Meaning_xor : Stmt := inClass (top 31) 5
abbrev s_Meaning_and : Stmt := inClass (top 31) 6
abbrev s_Meaning_or : Stmt := inClass (top 31) 7
abbrev s_Meaning_sub : Stmt := inClass (top 31) 8
abbrev s_Meaning_invert : Stmt := inClass (top 31) 9
abbrev s_Meaning_value : Stmt := inClass (top 31) 10
abbrev s_Meaning_states : Stmt := inClass (top 31) 11
abbrev s_Meaning_price : Stmt := inClass (top 31) 12
abbrev s_check_wish : Stmt := top 34
abbrev s_ends_of : Stmt := top 35
abbrev s_above_locked : Stmt := top 36
abbrev s_check_barred : Stmt := top 37
abbrev s_open_ends : Stmt := top 38
abbrev s_endless : Stmt := top 39
abbrev s_step_prices : Stmt := top 40
abbrev s_choices : Stmt := top 41
abbrev s_favoured : Stmt := top 42
abbrev s_shorter : Stmt := top 43
abbrev s_paired : Stmt := top 44
abbrev s_let_through : Stmt := top 45
abbrev s_ways_between : Stmt := top 46
abbrev s_Cheapest_init : Stmt := inClass (top 47) 0
abbrev s_cheapest : Stmt := top 48
abbrev s_is_way : Stmt := top 49
abbrev s_is_ways : Stmt := top 50
abbrev s_L_stream : Stmt := top 52
abbrev s_L_draw : Stmt := top 53
abbrev s_L_pick : Stmt := top 54
abbrev s_L_name : Stmt := top 55
abbrev s_L_rows : Stmt := top 56
abbrev s_L_way : Stmt := top 57
abbrev s_L_kinds : Stmt := top 58
abbrev s_L_prices : Stmt := top 59
abbrev s_L_with : Stmt := top 60
abbrev s_L_wish : Stmt := top 61
abbrev s_L_pins : Stmt := top 62
abbrev s_L_way_steps : Stmt := top 63
abbrev s_L_is_barred : Stmt := top 64
abbrev s_L_barred_right : Stmt := top 65
abbrev s_L_is_integer : Stmt := top 66
abbrev s_L_is_triple : Stmt := top 67
abbrev s_L_are_ways : Stmt := top 68
abbrev s_L_asked : Stmt := top 69
abbrev s_L_default : Stmt := top 70
abbrev s_L_is_shown : Stmt := top 71
abbrev s_law : Stmt := top 72
end Ts

set_option maxRecDepth 100000
set_option maxHeartbeats 4000000
namespace Ts
open PySem L2
/-! ### how a def stands -/
structure DefAt (K : PySem.W.Frag) (mg : Str → Option Value) (x : Str) (st : Stmt) (ps : List Str) where
  f : Addr
  fd : FuncData
  F : Fun K x x st f fd
  b : Binds K fd ps []
  g : mg x = some (.ref f)
structure MethAt (K : PySem.W.Frag) (C : Addr) (x q : Str) (st : Stmt) (ps : List Str) where
  f : Addr
  fd : FuncData
  F : Fun K x q st f fd
  b : Binds K fd ps []
  m : Meth K C x f
structure TxB (mg : Str → Option Value) : Prop where
  len : mg "len" = none
  abs : mg "abs" = none
  int : mg "int" = none
  str : mg "str" = none
  bool : mg "bool" = none
  list : mg "list" = none
  tuple : mg "tuple" = none
  dict : mg "dict" = none
  range : mg "range" = none
  enumerate : mg "enumerate" = none
  isinstance : mg "isinstance" = none
  all : mg "all" = none
theorem lk {l : List (Option V)} {i : Nat} {v : V} (h : l[i]? = some (some v)) : l[i]? = some (some v) := h
/-! ### the draws -/
/-- all but a is kept -/
def SB (a : Addr) (H H' : Hp) : Prop := ∀ b o, b ≠ a → H b = some o → H' b = some o
theorem SB.refl (a : Addr) (H : Hp) : SB a H H := fun _ _ _ h => h
theorem SB.trans {a : Addr} {H H1 H2 : Hp} (x : SB a H H1) (y : SB a H1 H2) : SB a H H2 := fun b o n h => y b o n (x b o n h)
theorem SB.of {a : Addr} {H H' : Hp} (x : Same H H') : SB a H H' := fun b o _ h => x b o h
theorem Same.new {H : Hp} {p : Addr} {o : HO} (h : H p = none) : Same H (upd H p o) := fun b u e => by rw [upd_ne (ne_of_none e h)]; exact e
theorem SB.upd {a p : Addr} {H : Hp} {o : HO} (h : H p = none) : SB a H (L2.upd H p o) := SB.of (Same.new h)
theorem SB.seqL {K : PySem.W.Frag} {a l : Addr} {H H' : Hp} {xs : List V} (x : SB a H H') (n : l ≠ a) (h : SqL K H l xs) : SqL K H' l xs := by
  rcases h with (h | ⟨o, h⟩) | h
  · exact .inl (.inl (x _ _ n h))
  · exact .inl (.inr ⟨o, x _ _ n h⟩)
  · exact .inr h
theorem SB.free {a b : Addr} {H H' : Hp} (x : SB a H H') (n : b ≠ a) (h : H' b = none) : H b = none := by
  cases q : H b with
  | none => rfl
  | some o =>
    rw [x b o n q] at h
    cases h
/-- at a a stream of draws of which at most n are mixed numbers -/
def Stm (H : Hp) (a : Addr) (n : Int) : Prop := ∃ x y z : Int, H a = some (.lst [.int x, .int y, .int z]) ∧ 0 ≤ x ∧ 0 ≤ y ∧ y < 1099511627776 ∧ 0 ≤ z ∧ z ≤ n
theorem Stm.mono {H : Hp} {a : Addr} {n m : Int} (h : Stm H a n) (k : n ≤ m) : Stm H a m := by
  obtain ⟨x, y, z, e, h1, h2, h3, h4, h5⟩ := h
  exact ⟨x, y, z, e, h1, h2, h3, h4, Int.le_trans h5 k⟩
theorem Stm.ne {H : Hp} {a p : Addr} {n : Int} (h : Stm H a n) (hp : H p = none) : a ≠ p := by
  obtain ⟨x, y, z, e, _⟩ := h
  exact ne_of_none e hp
theorem Stm.same {H H' : Hp} {a : Addr} {n : Int} (h : Stm H a n) (s : Same H H') : Stm H' a n := by
  obtain ⟨x, y, z, e, r⟩ := h
  exact ⟨x, y, z, s _ _ e, r⟩
theorem Stm.upd {H : Hp} {a p : Addr} {o : HO} {n : Int} (h : Stm H a n) (hp : H p = none) : Stm (upd H p o) a n := h.same (Same.new hp)
theorem ne_lit {i : Int} (h : i ≠ 0) : i ≠ 0 := h
theorem fm_in (q : Int) {m : Int} (h : 1 ≤ m) : 0 ≤ q.fmod m ∧ q.fmod m < m := by
  rw [Int.fmod_eq_emod_of_nonneg q (by omega)]
  exact ⟨Int.emod_nonneg _ (by omega), Int.emod_lt_of_pos _ (by omega)⟩
def spStream (K : PySem.W.Frag) : Sp := fun vs H Q _ => ∃ (a : Addr) (ns : List Int) (k : Int), vs = [.ref a, .int k] ∧ SqL K H a (ns.map V.int) ∧ 0 ≤ k ∧ k ≤ 1000 ∧
  ∀ (p : Addr) (x y : Int), H p = none → 0 ≤ x → 0 ≤ y → y < 1099511627776 → Q (.ref p) (upd H p (.lst [.int x, .int y, .int 0]))
def spDraw : Sp := fun vs H Q _ => ∃ (a : Addr) (m n : Int), vs = [.ref a, .int m] ∧ Stm H a n ∧ n ≤ 1099511627776 ∧ 1 ≤ m ∧ m ≤ 1000000 ∧
  ∀ (r : Int) (H' : Hp), 0 ≤ r → r < m → Stm H' a (n + 1) → (∀ b, b ≠ a → H' b = H b) → Q (.int r) H'
section
variable {P : Program} {w : World} {K : PySem.W.Frag} {mg : Str → Option Value} {base : Heap}
theorem sc_stream : FnScope ["_law_script", "_law_k", "_law_cell"] ["_law_script", "_law_k"] (defScope s_L_stream) := ⟨rfl, rfl, rfl, by decide +kernel, rfl, by decide +kernel, by decide +kernel⟩
theorem ok_stream (D : DefAt K mg "_law_stream" s_L_stream ["_law_script", "_law_k"]) (B : TxB mg) : FnOk P w K mg base CX0 2 D.f D.fd ["_law_script", "_law_k"] (spStream K) := by
  refine D.F.ok sc_stream (fun vs H Q E h => ?_) (fun cdv A outer s H vs Q E hr h => ?_)
  · obtain ⟨a, ns, k, rfl, _⟩ := h
    rfl
  · obtain ⟨a, ns, k, rfl, hS, h0, h1, hq⟩ := h
    refine ⟨_, pss_cons (ps_set (i := 2) sc_stream.nd rfl (.inl rfl) (pe_ifExp (pt_cmpR op_lt (pv 1) (pe_callB call_len_seq (by rfl) B.len PySem.boot_len (pa_cons (pv 0) pa_nil)) (nomark _)) (pe_callB call_abs (by rfl) B.abs (by decide +kernel) (pa_cons (pe_ix ix_list (pv 0) (pv 1) (fun _ _ => rfl)) pa_nil)) pe_int))
      (pss_one (ps_ret (pe_lst (pa_cons (pe_ifExp (pt_cmpR op_ge (pv 2) (pe_op op_pow pe_int pe_int) (nomark _)) (pv 2) pe_int) (pa_cons (pe_op op_add (pe_op op_modN (pe_callTy call_int1 (by rfl) B.int (by decide +kernel) (pa_cons (pv 2) pa_nil)) pe_int) (pe_op op_mul pe_int (pv 1))) (pa_cons pe_int pa_nil)))))), ?_⟩
    refine ⟨_, rfl, _, rfl, a, _, rfl, .inl hS, _, _, rfl, rfl, _, rfl, ?_⟩
    have fin : ∀ c : Int, 0 ≤ c → 0 ≤ c.fmod 2147483647 + 31 * k ∧ c.fmod 2147483647 + 31 * k < 1099511627776 := fun c hc => by
      have e := Int.fmod_eq_emod_of_nonneg c (show (0 : Int) ≤ 2147483647 by decide)
      omega
    refine ite2 (fun h => ?_) (fun h => ?_)
    · have hlt := of_decide_eq_true h
      rw [List.length_map] at hlt
      obtain ⟨v, hv⟩ : ∃ v, ns[k.toNat]? = some v := ⟨ns[k.toNat]'(by omega), List.getElem?_eq_getElem (by omega)⟩
      refine ⟨_, rfl, _, rfl, a, _, _, .int v, rfl, rfl, hS, at_of (j := k.toNat) (by omega) (by rw [List.getElem?_map, hv]; rfl), _, rfl, ?_⟩
      have hc : (0 : Int) ≤ if v < 0 then -v else v := by split <;> omega
      generalize (if v < 0 then -v else v) = c at hc
      refine ⟨_, rfl, _, _, rfl, rfl, ⟨by decide, by decide, by decide⟩, _, _, rfl, rfl, _, rfl, ?_⟩
      refine ite2 (fun h => ?_) (fun h => ?_)
      · exact ⟨_, rfl, _, rfl, .inl ⟨_, rfl, _, _, rfl, rfl, ne_lit (by decide), _, rfl, _, _, rfl, rfl, .inl ⟨by decide, by decide⟩, _, _, rfl, rfl, (by show 3 ≤ sizeLine; decide), fun p hp => hq p _ _ hp hc (fin c hc).1 (fin c hc).2⟩⟩
      · exact ⟨_, rfl, .inl ⟨_, rfl, _, _, rfl, rfl, ne_lit (by decide), _, rfl, _, _, rfl, rfl, .inl ⟨by decide, by decide⟩, _, _, rfl, rfl, (by show 3 ≤ sizeLine; decide), fun p hp => hq p _ _ hp (by decide) (fin c hc).1 (fin c hc).2⟩⟩
    · have hc : (0 : Int) ≤ 0 := Int.le_refl 0
      refine ⟨_, rfl, _, _, rfl, rfl, ⟨by decide, by decide, by decide⟩, _, _, rfl, rfl, _, rfl, ?_⟩
      refine ite2 (fun h => ?_) (fun h => ?_)
      · exact ⟨_, rfl, _, rfl, .inl ⟨_, rfl, _, _, rfl, rfl, ne_lit (by decide), _, rfl, _, _, rfl, rfl, .inl ⟨by decide, by decide⟩, _, _, rfl, rfl, (by show 3 ≤ sizeLine; decide), fun p hp => hq p _ _ hp hc (fin 0 hc).1 (fin 0 hc).2⟩⟩
      · exact ⟨_, rfl, .inl ⟨_, rfl, _, _, rfl, rfl, ne_lit (by decide), _, rfl, _, _, rfl, rfl, .inl ⟨by decide, by decide⟩, _, _, rfl, rfl, (by show 3 ≤ sizeLine; decide), fun p hp => hq p _ _ hp (by decide) (fin 0 hc).1 (fin 0 hc).2⟩⟩
theorem sc_draw : FnScope ["_law_stream_here", "_law_many", "_law_digit", "_law_spread"] ["_law_stream_here", "_law_many"] (defScope s_L_draw) := ⟨rfl, rfl, rfl, by decide +kernel, rfl, by decide +kernel, by decide +kernel⟩
theorem ok_draw (D : DefAt K mg "_law_draw" s_L_draw ["_law_stream_here", "_law_many"]) (B : TxB mg) : FnOk P w K mg base CX0 2 D.f D.fd ["_law_stream_here", "_law_many"] spDraw := by
  refine D.F.ok sc_draw (fun vs H Q E h => ?_) (fun cdv A outer s H vs Q E hr h => ?_)
  · obtain ⟨a, m, n, rfl, _⟩ := h
    rfl
  · obtain ⟨a, m, n, rfl, ⟨x, y, z, e, hx, hy, hy1, hz, hzn⟩, hn, hm, hm1, hq⟩ := h
    have eS := SqL.of (K := K) e
    refine ⟨_, pss_cons (ps_if (pt_cmpR op_gt (pe_ix ix_list (pv 0) pe_int (fun _ _ => rfl)) pe_int (nomark _))
        (pss_cons (ps_set (i := 2) sc_draw.nd rfl (.inl rfl) (pe_op op_modN (pe_callTy call_int1 (by rfl) B.int (by decide +kernel) (pa_cons (pe_ix ix_list (pv 0) pe_int (fun _ _ => rfl)) pa_nil)) (pv 1)))
        (pss_cons (ps_asg (pe_op op_fdivN (pe_ix ix_list (pv 0) pe_int (fun _ _ => rfl)) (pv 1)) (pg_sub (pv 0) pe_int set_list))
        (pss_one (ps_ret (pv 2))))) pss_nil)
      (pss_cons (ps_asg (pe_op op_add (pe_ix ix_list (pv 0) pe_int (fun _ _ => rfl)) pe_int) (pg_sub (pv 0) pe_int set_list))
      (pss_cons (ps_set (i := 3) sc_draw.nd rfl (.inl rfl) (pe_op op_modN (pe_op op_pow (pe_callTy call_int1 (by rfl) B.int (by decide +kernel) (pa_cons (pe_op op_add (pe_op op_add (pe_ix ix_list (pv 0) pe_int (fun _ _ => rfl)) (pe_op op_mul pe_int (pe_ix ix_list (pv 0) pe_int (fun _ _ => rfl)))) pe_int) pa_nil)) pe_int) pe_int))
      (pss_one (ps_ret (pe_op op_modN (pe_op op_fdivN (pe_op op_modN (pe_callTy call_int1 (by rfl) B.int (by decide +kernel) (pa_cons (pe_op op_mul (pe_op op_add (pv 3) (pe_ix ix_list (pv 0) pe_int (fun _ _ => rfl))) pe_int) pa_nil)) pe_int) pe_int) (pv 1)))))), ?_⟩
    have g0 : ∀ x y z : Int, atI [V.int x, .int y, .int z] 0 = some (.int x) := fun _ _ _ => rfl
    have g1 : ∀ x y z : Int, atI [V.int x, .int y, .int z] 1 = some (.int y) := fun _ _ _ => rfl
    have g2 : ∀ x y z : Int, atI [V.int x, .int y, .int z] 2 = some (.int z) := fun _ _ _ => rfl
    refine ⟨_, rfl, a, _, _, _, rfl, rfl, eS, g0 _ _ _, _, _, rfl, rfl, _, rfl, ?_⟩
    refine ite2 (fun h => ?_) (fun h => ?_)
    · have hx0 := of_decide_eq_true h
      refine ⟨_, rfl, a, _, _, _, rfl, rfl, eS, g0 _ _ _, .inl ⟨_, rfl, _, rfl, _, _, rfl, rfl, (by omega), ?_⟩⟩
      refine ⟨_, rfl, a, _, _, _, rfl, rfl, eS, g0 _ _ _, _, rfl, _, _, rfl, rfl, ⟨by omega, by omega⟩, _, rfl, a, _, _, 0, rfl, rfl, e, rfl, _, rfl, ?_⟩
      have e2 := Int.fdiv_eq_ediv_of_nonneg x (show (0 : Int) ≤ m by omega)
      exact hq _ _ (fm_in _ hm).1 (fm_in _ hm).2 ⟨x.fdiv m, y, z, upd_same, by rw [e2]; exact Int.ediv_nonneg hx (by omega), hy, hy1, hz, by omega⟩ fun b hb => upd_ne hb
    · refine ⟨_, rfl, a, _, _, _, rfl, rfl, eS, g2 _ _ _, _, _, rfl, rfl, _, rfl, a, _, _, 2, rfl, rfl, e, rfl, ?_⟩
      have e' : (upd H a (.lst [V.int x, .int y, .int (z + 1)])) a = some (.lst [V.int x, .int y, .int (z + 1)]) := upd_same
      have eS' := SqL.of (K := K) e'
      refine ⟨_, rfl, a, _, _, _, rfl, rfl, eS', g1 _ _ _, _, rfl, a, _, _, _, rfl, rfl, eS', g2 _ _ _, _, _, rfl, rfl, .inl ⟨by decide, by decide⟩, _, _, rfl, rfl, _, _, rfl, rfl, .inl ⟨_, rfl, _, _, rfl, rfl, ⟨by decide, by decide, by omega⟩, _, _, rfl, rfl, ne_lit (by decide), ?_⟩⟩
      have e3 := Int.fmod_eq_emod_of_nonneg ((y + 7919 * (z + 1) + 104729) ^ (5 : Int).toNat) (show (0 : Int) ≤ 2147483647 by decide)
      generalize (y + 7919 * (z + 1) + 104729) ^ (5 : Int).toNat = g at e3
      have b1 := Int.emod_nonneg g (show (2147483647 : Int) ≠ 0 by decide)
      have b2 := Int.emod_lt_of_pos g (show (0 : Int) < 2147483647 by decide)
      rw [← e3] at b1 b2
      generalize g.fmod 2147483647 = u at b1 b2
      refine ⟨_, rfl, _, rfl, a, _, _, _, rfl, rfl, eS', g2 _ _ _, _, _, rfl, rfl, _, _, rfl, rfl, .inl ⟨by omega, by omega⟩, .inl ⟨_, rfl, _, _, rfl, rfl, ne_lit (by decide), _, _, rfl, rfl, ⟨by decide, by decide⟩, _, rfl, _, _, rfl, rfl, by omega, ?_⟩⟩
      exact hq _ _ (fm_in _ hm).1 (fm_in _ hm).2 ⟨x, y, z + 1, upd_same, hx, hy, hy1, by omega, by omega⟩ fun b hb => upd_ne hb
end
end Ts

set_option maxRecDepth 100000
set_option maxHeartbeats 4000000
namespace Ts
open PySem L2
/-- an item of a list, or a sign of a text, that is drawn -/
def spPick (K : PySem.W.Frag) : Sp := fun vs H Q _ =>
  (∃ (a l : Addr) (n : Int) (xs : List V), vs = [.ref a, .ref l] ∧ Stm H a n ∧ n ≤ 1099511627776 ∧ l ≠ a ∧ SqL K H l xs ∧ 1 ≤ xs.length ∧ xs.length ≤ 1000000 ∧
    ∀ (v : V) (H' : Hp), v ∈ xs → Stm H' a (n + 1) → SB a H H' → (∀ b, H b = none → H' b = none) → Q v H') ∨
  (∃ (a : Addr) (z : Str) (n : Int), vs = [.ref a, .str z] ∧ Stm H a n ∧ n ≤ 1099511627776 ∧ 1 ≤ z.length ∧ z.length ≤ 1000000 ∧
    ∀ (c : Nat) (H' : Hp), c ∈ z.cps.toList → Stm H' a (n + 1) → SB a H H' → (∀ b, H b = none → H' b = none) → Q (.str ⟨#[c]⟩) H')
theorem sb_eq {a : Addr} {H H' : Hp} (h : ∀ b, b ≠ a → H' b = H b) : SB a H H' := fun b o n e => by rw [h b n]; exact e
theorem free_eq {a : Addr} {n : Int} {H H' : Hp} (s : Stm H a n) (h : ∀ b, b ≠ a → H' b = H b) (b : Addr) (hb : H b = none) : H' b = none := by rw [h b (s.ne hb).symm]; exact hb
/-- a name as it is drawn: 1, 2, 3 or 8 letters -/
def Low (z : Str) : Prop := ∀ c ∈ z.cps.toList, 97 ≤ c ∧ c ≤ 122
def Drawn (z : Str) : Prop := (z.length = 1 ∨ z.length = 2 ∨ z.length = 3 ∨ z.length = 8) ∧ Low z
def NameShape (z : Str) : Prop := ((z.length = 1 ∨ z.length = 2 ∨ z.length = 3 ∨ z.length = 8) ∨ z.length = 4) ∧ Low z
theorem Drawn.shape {z : Str} (h : Drawn z) : NameShape z := ⟨.inl h.1, h.2⟩
def spName : Sp := fun vs H Q _ => ∃ (a : Addr) (n : Int), vs = [.ref a] ∧ Stm H a n ∧ n ≤ 549755813888 ∧
  ∀ (z : Str) (H' : Hp), Drawn z → Stm H' a (n + 9) → SB a H H' → Q (.str z) H'
theorem abc_low : ∀ c ∈ ("abcdefghijklmnopqrstuvwxyz" : Str).cps.toList, 97 ≤ c ∧ c ≤ 122 := by decide +kernel
theorem abc_len : ("abcdefghijklmnopqrstuvwxyz" : Str).length = 26 := by decide +kernel
theorem join_empty : ∀ (ys : List Str), (Str.join ("" : Str) ys).cps.toList = (ys.map fun y => y.cps.toList).flatten
  | [] => rfl
  | [x] => by simp [Str.join]
  | x :: y :: r => by
    have ih := join_empty (y :: r)
    have e : ("" : Str).cps.toList = [] := by decide +kernel
    show ((x.cps ++ ("" : Str).cps) ++ (Str.join "" (y :: r)).cps).toList = _
    rw [Array.toList_append, Array.toList_append, ih, e]
    simp
theorem tYes_if {σ : St} {H : Hp} {A B : Hp → Prop} (h : A H) : tYes σ H (fun b H3 => if b = true then A H3 else B H3) := by
  show if true = true then A H else B H
  rw [if_pos rfl]
  exact h
/-- signs put together -/
def signs (cs : List Nat) : List Str := cs.map fun c => ⟨#[c]⟩
theorem join_signs (cs : List Nat) : (Txt.join ("" : Str) (signs cs)).cps.toList = cs := by
  rw [TL.join_eq, join_empty]
  unfold signs
  induction cs with
  | nil => rfl
  | cons c r ih =>
    simp only [List.map_cons, List.flatten_cons] at ih ⊢
    rw [ih]
    rfl
theorem len_toList (z : Str) : z.length = z.cps.toList.length := by simp [Str.length]
section
variable {P : Program} {w : World} {K : PySem.W.Frag} {mg : Str → Option Value} {base : Heap}
theorem sc_pick : FnScope ["_law_stream_here", "_law_things"] ["_law_stream_here", "_law_things"] (defScope s_L_pick) := ⟨rfl, rfl, rfl, by decide +kernel, rfl, by decide +kernel, by decide +kernel⟩
theorem ok_pick (D : DefAt K mg "_law_pick" s_L_pick ["_law_stream_here", "_law_things"]) (Dd : DefAt K mg "_law_draw" s_L_draw ["_law_stream_here", "_law_many"]) (B : TxB mg) : FnOk P w K mg base CX0 3 D.f D.fd ["_law_stream_here", "_law_things"] (spPick K) := by
  have G : FnOk P w K mg base CX0 2 Dd.f Dd.fd ["_law_stream_here", "_law_many"] spDraw := ok_draw Dd B
  refine D.F.ok sc_pick (fun vs H Q E h => ?_) (fun cdv A outer s H vs Q E hr h => ?_)
  · rcases h with ⟨a, l, n, xs, rfl, _⟩ | ⟨a, z, n, rfl, _⟩ <;> rfl
  · rcases h with ⟨a, l, n, xs, rfl, hs, hn, la, hl, h1, h2, hq⟩ | ⟨a, z, n, rfl, hs, hn, h1, h2, hq⟩
    · refine ⟨_, pss_one (ps_ret (pe_ix ix_list (pv 1) (pe_call G hr rfl Dd.g Dd.F.kp Dd.b .nil pass0 (pa_cons (pv 0) (pa_cons (pe_callB call_len_seq (by rfl) B.len PySem.boot_len (pa_cons (pv 1) pa_nil)) pa_nil))) (fun _ _ => rfl))), ?_⟩
      refine ⟨_, rfl, _, rfl, _, rfl, l, xs, rfl, .inl hl, a, xs.length, n, rfl, hs, hn, by omega, by omega, fun r H' r0 r1 hs' he => ?_⟩
      have hk : r.toNat < xs.length := by omega
      exact ⟨l, xs, r, xs[r.toNat], rfl, rfl, (sb_eq he).seqL la hl, at_of (j := r.toNat) (by omega) (List.getElem?_eq_getElem hk), hq _ _ (List.getElem_mem hk) hs' (sb_eq he) (free_eq hs he)⟩
    · refine ⟨_, pss_one (ps_ret (pe_item_str (pv 1) (pe_call G hr rfl Dd.g Dd.F.kp Dd.b .nil pass0 (pa_cons (pv 0) (pa_cons (pe_callB call_len (by rfl) B.len PySem.boot_len (pa_cons (pv 1) pa_nil)) pa_nil))) (fun _ _ => rfl))), ?_⟩
      refine ⟨_, rfl, _, rfl, _, rfl, _, z.length, rfl, ⟨Nat.le_trans h2 (by decide), rfl⟩, a, z.length, n, rfl, hs, hn, by omega, by omega, fun r H' r0 r1 hs' he => ?_⟩
      have hk : r.toNat < z.cps.size := by
        have : z.length = z.cps.size := rfl
        omega
      exact ⟨z, r, z.cps[r.toNat], rfl, rfl, r0, by omega, r1, Array.getElem?_eq_getElem hk, hq _ _ (by simp) hs' (sb_eq he) (free_eq hs he)⟩
theorem sc_name : FnScope ["_law_stream_here", "_law_size", "_law_k"] ["_law_stream_here"] (defScope s_L_name) := ⟨rfl, rfl, rfl, by decide +kernel, rfl, by decide +kernel, by decide +kernel⟩
theorem ok_name (D : DefAt K mg "_law_name" s_L_name ["_law_stream_here"]) (Dp : DefAt K mg "_law_pick" s_L_pick ["_law_stream_here", "_law_things"]) (Dd : DefAt K mg "_law_draw" s_L_draw ["_law_stream_here", "_law_many"]) (B : TxB mg) :
    FnOk P w K mg base CX0 4 D.f D.fd ["_law_stream_here"] spName := by
  have Gd : FnOk P w K mg base CX0 2 Dd.f Dd.fd ["_law_stream_here", "_law_many"] spDraw := ok_draw Dd B
  have Gp : FnOk P w K mg base CX0 3 Dp.f Dp.fd ["_law_stream_here", "_law_things"] (spPick K) := ok_pick Dp Dd B
  refine D.F.ok sc_name (fun vs H Q E h => ?_) (fun cdv A outer s H vs Q E hr h => ?_)
  · obtain ⟨a, n, rfl, _⟩ := h
    rfl
  · obtain ⟨a, n, rfl, hs, hn, hq⟩ := h
    refine ⟨_, pss_cons (ps_set (i := 1) sc_name.nd rfl (.inl rfl) (pe_ix ix_list (pe_lst (pa_cons pe_int (pa_cons pe_int (pa_cons pe_int (pa_cons pe_int (pa_cons pe_int pa_nil)))))) (pe_call Gd (hr.mono (by decide)) rfl Dd.g Dd.F.kp Dd.b .nil pass0 (pa_cons (pv 0) (pa_cons pe_int pa_nil))) (fun _ _ => rfl)))
      (pss_one (ps_ret (pe_join pe_str (pe_lc (own := [("_law_k", 2)]) (g := gName 2) (tt := tYes) (by rfl) sc_name.nd (pi_range1 (by rfl) B.range (pa_cons (pv 1) pa_nil)) (blkOk_by (N := ["_law_stream_here", "_law_size", "_law_k"]) (sc := defScope s_L_name) (by decide +kernel))
        (fun _ _ _ _ _ => pg_name (i := 2) sc_name.nd rfl (Or.inl rfl)) (fun _ _ _ _ _ => pts_nil) (fun _ _ _ _ _ => pe_call Gp hr rfl Dp.g Dp.F.kp Dp.b .nil pass0 (pa_cons (pv 0) (pa_cons pe_str pa_nil))))))), ?_⟩
    refine ⟨(by show 5 ≤ sizeLine; decide), fun l hl => ?_⟩
    refine ⟨_, rfl, a, 5, n, rfl, hs.upd hl, by omega, by decide, by decide, fun r H1 r0 r1 hs1 he1 => ?_⟩
    have la : l ≠ a := (hs.ne hl).symm
    have e1 : H1 l = some (.lst [V.int 1, .int 1, .int 2, .int 3, .int 8]) := by rw [he1 l la]; exact upd_same
    have sb1 : SB a H H1 := (SB.upd hl).trans (sb_eq he1)
    obtain ⟨m, hm, hm4⟩ : ∃ m : Int, atI [V.int 1, .int 1, .int 2, .int 3, .int 8] r = some (.int m) ∧ (m = 1 ∨ m = 2 ∨ m = 3 ∨ m = 8) := by
      obtain rfl | rfl | rfl | rfl | rfl : r = 0 ∨ r = 1 ∨ r = 2 ∨ r = 3 ∨ r = 4 := by omega
      · exact ⟨1, rfl, by decide⟩
      · exact ⟨1, rfl, by decide⟩
      · exact ⟨2, rfl, by decide⟩
      · exact ⟨3, rfl, by decide⟩
      · exact ⟨8, rfl, by decide⟩
    refine ⟨l, _, r, .int m, rfl, rfl, SqL.of e1, hm, ⟨_, rfl⟩, ?_⟩
    refine ⟨_, rfl, m, rfl, by omega, by omega, fun Dl hD => ?_⟩
    refine lc_range (lo := 0) (n := m.toNat) (fun i H2 => ∃ cs : List Nat, cs.length = i ∧ (∀ c ∈ cs, 97 ≤ c ∧ c ≤ 122) ∧ H2 Dl = some (.lst ((signs cs).map V.str)) ∧ Stm H2 a (n + 1 + i) ∧ SB a H1 H2) ?_ ?_ ?_
    · exact ⟨[], rfl, (fun c hc => by cases hc), upd_same, (by simpa using hs1.upd (o := .lst []) hD), SB.upd hD⟩
    · rintro i H2 hi ⟨cs, hcl, hlow, hDl, hs2, sb2⟩
      refine ⟨rfl, tYes_if ?_⟩
      have Da : Dl ≠ a := (hs1.ne hD).symm
      refine ⟨_, rfl, .inr ⟨a, _, _, rfl, hs2, by omega, by rw [abc_len]; decide, by rw [abc_len]; decide, fun c H3 hc hs3 sb3 _ => ?_⟩⟩
      refine ⟨(signs cs).map V.str, sb3 _ _ Da hDl, ?_, cs ++ [c], by simp [hcl], ?_, ?_, ?_, ?_⟩
      · rw [List.length_map]
        unfold signs
        rw [List.length_map, hcl]
        exact Nat.lt_of_lt_of_le hi (Nat.le_trans (show m.toNat ≤ 8 by omega) (by decide))
      · intro d hd
        rcases List.mem_append.mp hd with h | h
        · exact hlow d h
        · rw [List.mem_singleton.mp h]; exact abc_low c hc
      · rw [upd_same]; simp [signs]
      · have q := hs3
        obtain ⟨x, y, z, e, r⟩ := q
        refine ⟨x, y, z, ?_, r.1, r.2.1, r.2.2.1, r.2.2.2.1, by have := r.2.2.2.2; push_cast; omega⟩
        rw [upd_ne Da.symm]; exact e
      · intro b o hb e
        rw [upd_ne (fun q => by rw [q, hD] at e; cases e)]
        exact sb3 b o hb (sb2 b o hb e)
    · rintro H2 ⟨cs, hcl, hlow, hDl, hs2, sb2⟩
      refine ⟨_, Dl, signs cs, rfl, rfl, .inl (SqL.of hDl), ?_, ?_⟩
      · have e0 : ("" : Str).length = 0 := by decide +kernel
        rw [e0]
        have : ((signs cs).map (·.length)).sum = cs.length := by
          unfold signs
          clear hDl hcl hlow
          induction cs with
          | nil => rfl
          | cons c r ih => simp only [List.map_cons, List.sum_cons, ih, List.length_cons]; show 1 + r.length = r.length + 1; omega
        rw [this, hcl]; omega
      · refine hq _ _ ⟨?_, ?_⟩ (hs2.mono (by omega)) (sb1.trans sb2)
        · rw [len_toList, join_signs, hcl]; omega
        · intro c hc
          rw [join_signs] at hc
          exact hlow c hc
end
end Ts

set_option maxRecDepth 100000
set_option maxHeartbeats 4000000
namespace Ts
open PySem L2
/-! ### rows of trees -/
structure Row where
  nm : Str
  fo : Str
  ki : Str
  pr : Option Int
  deriving DecidableEq
def prV : Option Int → V
  | none => .non
  | some i => .int i
def rowVs (r : Row) : List V := [.str r.nm, .str r.fo, .str r.ki, prV r.pr]
structure RowsAt (H : Hp) (as : List Addr) (rs : List Row) : Prop where
  len : as.length = rs.length
  at_ : ∀ (i : Nat) (a : Addr) (r : Row), as[i]? = some a → rs[i]? = some r → H a = some (.tup (rowVs r))
theorem RowsAt.same {H H' : Hp} {as : List Addr} {rs : List Row} (h : RowsAt H as rs) (s : Same H H') : RowsAt H' as rs := ⟨h.len, fun i a r ha hr => s _ _ (h.at_ i a r ha hr)⟩
theorem RowsAt.sb {H H' : Hp} {as : List Addr} {rs : List Row} {p : Addr} {xs : List V} (h : RowsAt H as rs) (hp : H p = some (.lst xs)) (s : SB p H H') : RowsAt H' as rs :=
  ⟨h.len, fun i a r ha hr => s _ _ (fun q => by have e := h.at_ i a r ha hr; rw [q, hp] at e; cases e) (h.at_ i a r ha hr)⟩
theorem RowsAt.nil {H : Hp} : RowsAt H [] [] := ⟨rfl, fun i a r ha => by simp at ha⟩
theorem RowsAt.snoc {H : Hp} {as : List Addr} {rs : List Row} {a : Addr} {r : Row} (h : RowsAt H as rs) (ha : H a = some (.tup (rowVs r))) : RowsAt H (as ++ [a]) (rs ++ [r]) := by
  refine ⟨by simp [h.len], fun i b q hb hq => ?_⟩
  rcases Nat.lt_or_ge i as.length with hi | hi
  · rw [List.getElem?_append_left hi] at hb
    rw [List.getElem?_append_left (h.len ▸ hi)] at hq
    exact h.at_ i b q hb hq
  · rw [List.getElem?_append_right hi] at hb
    rw [List.getElem?_append_right (h.len ▸ hi)] at hq
    have e0 : i - as.length = 0 := by
      have := (List.getElem?_eq_some_iff.mp hb).1
      simp at this
      omega
    have e1 : i - rs.length = 0 := by rw [← h.len]; exact e0
    rw [e0] at hb
    rw [e1] at hq
    simp at hb hq
    subst hb; subst hq
    exact ha
def kinds3 : List Str := ["folder", "item", "shut"]
def PriceOk : Option Int → Prop
  | none => True
  | some i => 1 ≤ i
/-- what a row must be behind others -/
structure Fits (pre : List Row) (r : Row) : Prop where
  shape : NameShape r.nm
  top : r.nm ≠ ("top" : Str)
  new : r.nm ∉ pre.map (·.nm)
  home : r.fo = ("top" : Str) ∨ ∃ q ∈ pre, q.nm = r.fo ∧ q.ki = ("folder" : Str)
  kind : r.ki ∈ kinds3
  price : PriceOk r.pr
def Valid (rs : List Row) : Prop := ∀ i r, rs[i]? = some r → Fits (rs.take i) r
theorem Valid.nil : Valid [] := fun i r h => by simp at h
theorem Valid.snoc {rs : List Row} {r : Row} (h : Valid rs) (f : Fits rs r) : Valid (rs ++ [r]) := by
  intro i q hq
  rcases Nat.lt_or_ge i rs.length with hi | hi
  · rw [List.getElem?_append_left hi] at hq
    rw [List.take_append_of_le_length (Nat.le_of_lt hi)]
    exact h i q hq
  · rw [List.getElem?_append_right hi] at hq
    have e0 : i - rs.length = 0 := by
      have := (List.getElem?_eq_some_iff.mp hq).1
      simp at this
      omega
    rw [e0] at hq
    simp at hq
    subst hq
    have e : i = rs.length := by omega
    rw [e, List.take_append_of_le_length (Nat.le_refl _), List.take_length]
    exact f
/-! ### looking for texts in lists -/
theorem eqV_str (x y : Str) : eqV (.str x) (.str y) = decide (x = y) := by
  by_cases h : x = y
  · subst h
    simp [eqV]
  · simp [eqV, h]
theorem inV_strs (z : Str) : ∀ l : List Str, inV (.str z) (l.map V.str) = decide (z ∈ l)
  | [] => by simp [inV]
  | x :: l => by
    have ih := inV_strs z l
    unfold inV at ih ⊢
    rw [List.map_cons, List.any_cons, ih, eqV_str]
    by_cases h : x = z
    · subst h; simp
    · have h' : ¬ z = x := fun e => h e.symm
      simp [h, h']
theorem flat_strs (l : List Str) : (l.map V.str).all flatV = true := by
  rw [List.all_eq_true]
  intro v hv
  obtain ⟨z, _, rfl⟩ := List.mem_map.mp hv
  rfl
theorem low_cat {x y : Str} (hx : Low x) (hy : Low y) : Low (x ++ y) := by
  intro c hc
  have e : (x ++ y).cps.toList = x.cps.toList ++ y.cps.toList := by
    show (x.cps ++ y.cps).toList = _
    simp
  rw [e] at hc
  rcases List.mem_append.mp hc with h | h
  · exact hx c h
  · exact hy c h
theorem len_cat (x y : Str) : (x ++ y).length = x.length + y.length := by
  show (x.cps ++ y.cps).size = _
  simp [Str.length]
end Ts
namespace Ts
open PySem L2
/-! ### dicts by what they have -/
structure MemD (H : Hp) (d : Addr) (l : List Str) : Prop where
  ex : ∃ kv : List (Key × V), H d = some (.dK kv) ∧ (∀ z : Str, (valV kv (.inr z : Key)).isSome = decide (z ∈ l)) ∧ kv.length ≤ l.length
theorem MemD.same {H H' : Hp} {d : Addr} {l : List Str} (m : MemD H d l) (e : H' d = H d) : MemD H' d l := by
  obtain ⟨kv, h⟩ := m.ex
  exact ⟨kv, by rw [e]; exact h⟩
theorem putK_le (kv : List (Key × V)) (k : Key) (v : V) : (putK kv k v).length ≤ kv.length + 1 := by
  unfold putK
  split
  · rw [List.length_map]; exact Nat.le_succ _
  · rw [List.length_append, List.length_singleton]; exact Nat.le_refl _
theorem mem_put {kv : List (Key × V)} {l : List Str} (h : ∀ z : Str, (valV kv (.inr z : Key)).isSome = decide (z ∈ l)) (x : Str) (v : V) (z : Str) : (valV (putK kv (.inr x) v) (.inr z : Key)).isSome = decide (z ∈ l ++ [x]) := by
  rw [valV_put]
  by_cases e : z = x
  · subst e
    simp
  · have e' : ¬ (Sum.inr z : Key) = Sum.inr x := fun q => e (Sum.inr.inj q)
    rw [if_neg e', h z]
    simp [e]
theorem MemD.put {H : Hp} {d : Addr} {l : List Str} {kv : List (Key × V)} (hk : ∀ z : Str, (valV kv (.inr z : Key)).isSome = decide (z ∈ l)) (hl : kv.length ≤ l.length) (x : Str) (v : V) : MemD (upd H d (.dK (putK kv (.inr x) v))) d (l ++ [x]) :=
  ⟨_, upd_same, mem_put hk x v, by have := putK_le kv (.inr x) v; rw [List.length_append, List.length_singleton]; omega⟩
/-- rows as tuples or lists -/
structure SeqRows (H : Hp) (as : List Addr) (rs : List Row) : Prop where
  len : as.length = rs.length
  at_ : ∀ (i : Nat) (a : Addr) (r : Row), as[i]? = some a → rs[i]? = some r → H a = some (.tup (rowVs r)) ∨ H a = some (.lst (rowVs r))
theorem SeqRows.same {H H' : Hp} {as : List Addr} {rs : List Row} (h : SeqRows H as rs) (s : Same H H') : SeqRows H' as rs := ⟨h.len, fun i a r ha hr => (h.at_ i a r ha hr).imp (s _ _) (s _ _)⟩
theorem RowsAt.seq {H : Hp} {as : List Addr} {rs : List Row} (h : RowsAt H as rs) : SeqRows H as rs := ⟨h.len, fun i a r ha hr => .inl (h.at_ i a r ha hr)⟩
/-- what a row must be behind others, names and folders that stand already -/
structure FitsB (ns hs : List Str) (pre : List Row) (r : Row) : Prop where
  shape : NameShape r.nm
  top : r.nm ≠ ("top" : Str)
  new : r.nm ∉ ns ++ pre.map (·.nm)
  home : r.fo ∈ hs ++ (pre.filter fun q => decide (q.ki = ("folder" : Str))).map (·.nm)
  kind : r.ki ∈ kinds3
  price : PriceOk r.pr
theorem Fits.b {pre : List Row} {r : Row} (f : Fits pre r) : FitsB [] [("top" : Str)] pre r :=
  ⟨f.shape, f.top, by simpa using f.new, by
    rcases f.home with h | ⟨q, hq, h1, h2⟩
    · rw [h]; simp
    · refine List.mem_append.mpr (.inr (List.mem_map.mpr ⟨q, List.mem_filter.mpr ⟨hq, decide_eq_true h2⟩, h1⟩)), f.kind, f.price⟩
end Ts

set_option maxRecDepth 100000
set_option maxHeartbeats 4000000
namespace Ts
open PySem L2
def kindsL : List Str := ["folder", "folder", "item", "item", "item", "shut"]
def pricesL : List (Option Int) := [some 1, some 1, some 1, some 2, some 3, some 7, none]
def spKinds : Sp := fun vs H Q _ => vs = [] ∧ ∀ p, H p = none → Q (.ref p) (upd H p (.lst (kindsL.map V.str)))
def spPrices : Sp := fun vs H Q _ => vs = [] ∧ ∀ p, H p = none → Q (.ref p) (upd H p (.lst (pricesL.map prV)))
/-- the rows of a drawn tree: n mixed draws before, at most 13 more a row -/
def spRows (K : PySem.W.Frag) : Sp := fun vs H Q _ => ∃ (a kl pl : Addr) (many n : Int) (ks : List Str) (ps : List (Option Int)), vs = [.ref a, .int many, .ref kl, .ref pl] ∧ Stm H a n ∧ n ≤ 549755800000 ∧ 0 ≤ many ∧ many ≤ 40 ∧ kl ≠ a ∧ pl ≠ a ∧
  SqL K H kl (ks.map V.str) ∧ SqL K H pl (ps.map prV) ∧ 1 ≤ ks.length ∧ ks.length ≤ 1000 ∧ 1 ≤ ps.length ∧ ps.length ≤ 1000 ∧ (∀ k ∈ ks, k ∈ kinds3) ∧ (∀ q ∈ ps, PriceOk q) ∧
  ∀ (p : Addr) (as : List Addr) (rs : List Row) (H' : Hp), H p = none → p ≠ a → H' p = some (.lst (as.map V.ref)) → RowsAt H' as rs → Valid rs → (rs.length : Int) ≤ many → (∀ r ∈ rs, r.ki ∈ ks ∧ r.pr ∈ ps ∧ Drawn r.nm) → SB a H H' → Stm H' a (n + 13 * many) → Q (.ref p) H'
def folderNames (rs : List Row) : List Str := (rs.filter fun r => decide (r.ki = ("folder" : Str))).map (·.nm)
theorem top_len : ("top" : Str).length = 3 := by decide +kernel
theorem mem_cutV {xs : List V} {lo hi : Option Int} {v : V} (h : v ∈ cutV xs lo hi) : v ∈ xs := List.mem_of_mem_drop (List.mem_of_mem_take h)
theorem seq_ref {K : PySem.W.Frag} {H H' : Hp} {l : Addr} {xs : List V} (e : H' l = H l) (h : SqL K H l xs) : SqL K H' l xs := by
  rcases h with (h | ⟨o, h⟩) | h
  · exact .inl (.inl (by rw [e]; exact h))
  · exact .inl (.inr ⟨o, by rw [e]; exact h⟩)
  · exact .inr h
section
variable {P : Program} {w : World} {K : PySem.W.Frag} {mg : Str → Option Value} {base : Heap}
theorem sc_kinds : FnScope [] [] (defScope s_L_kinds) := ⟨rfl, rfl, rfl, by decide +kernel, rfl, by decide +kernel, by decide +kernel⟩
theorem ok_kinds (D : DefAt K mg "_law_kinds" s_L_kinds []) : FnOk P w K mg base CX0 2 D.f D.fd [] spKinds := by
  refine D.F.ok sc_kinds (fun vs H Q E h => ?_) (fun cdv A outer s H vs Q E hr h => ?_)
  · obtain ⟨rfl, _⟩ := h
    rfl
  · obtain ⟨rfl, hq⟩ := h
    refine ⟨_, pss_one (ps_ret (pe_lst (pa_cons pe_str (pa_cons pe_str (pa_cons pe_str (pa_cons pe_str (pa_cons pe_str (pa_cons pe_str pa_nil)))))))), ?_⟩
    exact ⟨(by show 6 ≤ sizeLine; decide), fun p hp => hq p hp⟩
theorem sc_prices : FnScope [] [] (defScope s_L_prices) := ⟨rfl, rfl, rfl, by decide +kernel, rfl, by decide +kernel, by decide +kernel⟩
theorem ok_prices (D : DefAt K mg "_law_prices" s_L_prices []) : FnOk P w K mg base CX0 2 D.f D.fd [] spPrices := by
  refine D.F.ok sc_prices (fun vs H Q E h => ?_) (fun cdv A outer s H vs Q E hr h => ?_)
  · obtain ⟨rfl, _⟩ := h
    rfl
  · obtain ⟨rfl, hq⟩ := h
    refine ⟨_, pss_one (ps_ret (pe_lst (pa_cons pe_int (pa_cons pe_int (pa_cons pe_int (pa_cons pe_int (pa_cons pe_int (pa_cons pe_int (pa_cons pe_non pa_nil))))))))), ?_⟩
    exact ⟨(by show 7 ≤ sizeLine; decide), fun p hp => hq p hp⟩
abbrev nRows : List Str := ["_law_stream_here", "_law_many", "_law_kinds_here", "_law_prices_here", "_law_rows_here", "_law_folders", "_law_names", "_law_k", "_law_name_here", "_law_kind", "_law_folder"]
theorem sc_rows : FnScope nRows ["_law_stream_here", "_law_many", "_law_kinds_here", "_law_prices_here"] (defScope s_L_rows) := ⟨rfl, rfl, rfl, by decide +kernel, rfl, by decide +kernel, by decide +kernel⟩
/-- what stands between two turns -/
structure RowsI (a p fl nl : Addr) (H0 H : Hp) (ks : List Str) (ps : List (Option Int)) (m : Int) (i : Nat) (as : List Addr) (rs : List Row) : Prop where
  hp : H p = some (.lst (as.map V.ref))
  hf : H fl = some (.lst ((("top" : Str) :: folderNames rs).map V.str))
  hn : H nl = some (.lst ((("top" : Str) :: rs.map (·.nm)).map V.str))
  rows : RowsAt H as rs
  val : Valid rs
  len : rs.length ≤ i
  mem : ∀ r ∈ rs, r.ki ∈ ks ∧ r.pr ∈ ps ∧ Drawn r.nm
  sb : SB a H0 H
  st : Stm H a m
theorem RowsI.step {a p fl nl : Addr} {H0 H H' : Hp} {ks : List Str} {ps : List (Option Int)} {m m' : Int} {i j : Nat} {as : List Addr} {rs : List Row} (h : RowsI a p fl nl H0 H ks ps m i as rs) (np : p ≠ a) (nf : fl ≠ a) (nn : nl ≠ a) (s : SB a H H') (hs : Stm H' a m') (hj : i ≤ j) :
    RowsI a p fl nl H0 H' ks ps m' j as rs := by
  obtain ⟨x, y, z, e, _⟩ := id h.st
  exact ⟨s _ _ np h.hp, s _ _ nf h.hf, s _ _ nn h.hn, h.rows.sb e s, h.val, Nat.le_trans h.len hj, h.mem, h.sb.trans s, hs⟩
theorem sign_at {z : Str} (h : Low z) {r : Int} (h0 : 0 ≤ r) (h1 : r < (z.length : Int)) : ∃ c, z.cps[r.toNat]? = some c ∧ Low ⟨#[c]⟩ := by
  have hk : r.toNat < z.cps.size := by
    have : z.length = z.cps.size := rfl
    omega
  refine ⟨z.cps[r.toNat], Array.getElem?_eq_getElem hk, fun c hc => ?_⟩
  have e : c = z.cps[r.toNat] := by simpa using hc
  rw [e]
  exact h _ (by simp)
theorem low_q : Low ("q" : Str) := by unfold Low; decide +kernel
theorem low_aj : Low ("abcdefghij" : Str) := by unfold Low; decide +kernel
theorem low_kp : Low ("klmnop" : Str) := by unfold Low; decide +kernel
theorem len_q : ("q" : Str).length = 1 := by decide +kernel
theorem len_aj : ("abcdefghij" : Str).length = 10 := by decide +kernel
theorem len_kp : ("klmnop" : Str).length = 6 := by decide +kernel
theorem szl {n : Nat} (h : n ≤ 1000) : n ≤ sizeLine := Nat.le_of_lt (small1000 h)
theorem folders_le (rs : List Row) : (folderNames rs).length ≤ rs.length := by
  unfold folderNames
  rw [List.length_map]
  exact List.length_filter_le _ _
theorem mem_folders {rs : List Row} {z : Str} (h : z ∈ folderNames rs) : ∃ q ∈ rs, q.nm = z ∧ q.ki = ("folder" : Str) := by
  obtain ⟨q, hq, e⟩ := List.mem_map.mp h
  obtain ⟨h1, h2⟩ := List.mem_filter.mp hq
  exact ⟨q, h1, e, of_decide_eq_true h2⟩
theorem folders_snoc (rs : List Row) (r : Row) : folderNames (rs ++ [r]) = folderNames rs ++ (if r.ki = ("folder" : Str) then [r.nm] else []) := by
  unfold folderNames
  rw [List.filter_append, List.map_append]
  by_cases h : r.ki = ("folder" : Str)
  · rw [if_pos h]; simp [h]
  · rw [if_neg h]; simp [h]
end
end Ts

set_option maxRecDepth 100000
set_option maxHeartbeats 4000000
namespace Ts
open PySem L2
theorem abc_uni : ∀ c ∈ List.range' 97 26, Unicode.isAlpha c = true ∧ Unicode.isLower c = true ∧ Unicode.isUpper c = false ∧ Unicode.isTitle c = false := by decide +kernel
theorem uni {c : Nat} (h : 97 ≤ c ∧ c ≤ 122) : Unicode.isAlpha c = true ∧ Unicode.isLower c = true ∧ Unicode.isUpper c = false ∧ Unicode.isTitle c = false :=
  abc_uni c (List.mem_range'_1.mpr ⟨h.1, by omega⟩)
theorem low_ascii {z : Str} (h : Low z) : Txt.isascii z = true := by
  unfold Txt.isascii
  rw [← Array.all_toList, List.all_eq_true]
  intro c hc
  have := h c hc
  simp; omega
theorem low_alpha {z : Str} (h : Low z) (h1 : 1 ≤ z.length) : Txt.isalpha z = true := by
  unfold Txt.isalpha
  rw [← Array.all_toList, Bool.and_eq_true, List.all_eq_true]
  exact ⟨decide_eq_true (by omega), fun c hc => (uni (h c hc)).1⟩
theorem low_lower {z : Str} (h : Low z) (h1 : 1 ≤ z.length) : Txt.islower z = true := by
  unfold Txt.islower
  rw [← Array.any_toList, ← Array.any_toList, Bool.and_eq_true]
  refine ⟨?_, ?_⟩
  · rw [List.any_eq_true]
    have hl : 0 < z.cps.toList.length := by rw [← len_toList]; omega
    exact ⟨z.cps.toList[0], List.getElem_mem hl, (uni (h _ (List.getElem_mem hl))).2.1⟩
  · rw [Bool.not_eq_true', List.any_eq_false]
    intro c hc
    have := uni (h c hc)
    simp [this.2.2.1, this.2.2.2]
theorem NameShape.pos {z : Str} (h : NameShape z) : 1 ≤ z.length ∧ z.length ≤ 8 := by have := h.1; omega
structure TxC (K : PySem.W.Frag) (mg : Str → Option Value) where
  top : ∃ t, mg "TOP" = some (.str "top" t)
  folder : ∃ t, mg "FOLDER" = some (.str "folder" t)
  long : ∃ t, mg "LONGEST_NAME" = some (.int 8 t)
  kindsA : Addr
  kinds : mg "KINDS" = some (.ref kindsA)
  num : DefAt K mg "is_number" s_is_number ["thing", "least"]
  kindsT : ∃ (o : Obj) (its : Array Value) (n : Nat), K.lookup kindsA = some o ∧ o.cls = .type "tuple" ∧ o.data = .seq its n ∧ its.size ≤ sizeLine ∧ Vals (kinds3.map V.str) its.toList
def spIsName : Sp := fun vs H Q _ => ∃ z, vs = [.str z] ∧ NameShape z ∧ z ≠ ("top" : Str) ∧ Q (.bl true) H
def spIsNumber : Sp := fun vs H Q _ => ∃ i n : Int, vs = [.int i, .int n] ∧ Q (.bl (decide (n ≤ i))) H
def spIsPrice : Sp := fun vs H Q _ => ∃ o, vs = [prV o] ∧ PriceOk o ∧ Q (.bl true) H
section
variable {P : Program} {w : World} {K : PySem.W.Frag} {mg : Str → Option Value} {base : Heap}
theorem sc_is_name : FnScope ["thing"] ["thing"] (defScope s_is_name) := ⟨rfl, rfl, rfl, by decide +kernel, rfl, by decide +kernel, by decide +kernel⟩
theorem ok_is_name (D : DefAt K mg "is_name" s_is_name ["thing"]) (B : TxB mg) (C : TxC K mg) : FnOk P w K mg base CX0 2 D.f D.fd ["thing"] spIsName := by
  obtain ⟨t1, gT⟩ := C.top
  obtain ⟨t2, gL⟩ := C.long
  refine D.F.ok sc_is_name (fun vs H Q E h => ?_) (fun cdv A outer s H vs Q E hr h => ?_)
  · obtain ⟨z, rfl, _⟩ := h
    rfl
  · obtain ⟨z, rfl, hz, ht, hq⟩ := h
    refine ⟨_, pss_cons (ps_if (PW.pt (pw_or (pt_not (pt_val (pe_callB call_isi (by rfl) B.isinstance (by decide +kernel) (pa_cons (pv 0) (pa_cons (pe_bltn (by rfl) B.str (by decide +kernel) (v := .ty "str") rfl) pa_nil)))))
        (pw_or (pt_cmpR op_eq (pv 0) (pe_glob (by rfl) gT (v := .str ("top" : Str)) ⟨_, rfl⟩) (nomark _)) (pw_or1 (pt_cmpR op_gt (pe_callB call_len (by rfl) B.len PySem.boot_len (pa_cons (pv 0) pa_nil)) (pe_glob (by rfl) gL (v := .int 8) ⟨_, rfl⟩) (nomark _)))))) (pss_one (ps_ret pe_bl)) pss_nil)
      (pss_one (ps_ret (pe_and (pe_m0 PySem.F.slot_str_isascii PySem.F.type_str_isascii mt_isascii (pv 0)) (pe_and (pe_m0 PySem.F.slot_str_isalpha PySem.F.type_str_isalpha mt_isalpha (pv 0)) (pe_one (pe_m0 PySem.F.slot_str_islower PySem.F.type_str_islower mt_islower (pv 0))))))), ?_⟩
    have hp := hz.pos
    refine ⟨_, rfl, _, _, _, _, true, rfl, .ty "str", .base (.str z), kit_ty (by decide +kernel), _, rfl, iteF ?_⟩
    refine ⟨_, rfl, rfl, _, rfl, ?_⟩
    rw [decide_eq_false (fun q => ht (V.str.inj q))]
    refine iteF ?_
    refine ⟨_, rfl, _, z.length, rfl, ⟨szl (by omega), rfl⟩, _, _, rfl, rfl, _, rfl, ?_⟩
    rw [decide_eq_false (by omega)]
    refine iteF ?_
    refine ⟨_, rfl, ⟨_, rfl⟩, _, rfl, rfl, trivial, _, rfl, ?_⟩
    rw [low_ascii hz.2]
    refine iteT ⟨_, rfl, ⟨_, rfl⟩, _, rfl, rfl, trivial, _, rfl, ?_⟩
    rw [low_alpha hz.2 hp.1]
    refine iteT ⟨_, rfl, ⟨_, rfl⟩, _, rfl, rfl, trivial, ?_⟩
    rw [low_lower hz.2 hp.1]
    exact hq
theorem sc_is_number : FnScope ["thing", "least"] ["thing", "least"] (defScope s_is_number) := ⟨rfl, rfl, rfl, by decide +kernel, rfl, by decide +kernel, by decide +kernel⟩
theorem ok_is_number (D : DefAt K mg "is_number" s_is_number ["thing", "least"]) (B : TxB mg) : FnOk P w K mg base CX0 1 D.f D.fd ["thing", "least"] spIsNumber := by
  refine D.F.ok sc_is_number (fun vs H Q E h => ?_) (fun cdv A outer s H vs Q E hr h => ?_)
  · obtain ⟨z, n, rfl, _⟩ := h
    rfl
  · obtain ⟨i, n, rfl, hq⟩ := h
    refine ⟨_, (pss_one (ps_ret (pe_and (pe_callB call_isi (by rfl) B.isinstance (by decide +kernel) (pa_cons (pv 0) (pa_cons (pe_bltn (by rfl) B.int (by decide +kernel) (v := .ty "int") rfl) pa_nil)))
        (pe_and (pe_not (pe_callB call_isi (by rfl) B.isinstance (by decide +kernel) (pa_cons (pv 0) (pa_cons (pe_bltn (by rfl) B.bool (by decide +kernel) (v := .ty "bool") rfl) pa_nil)))) (pe_one (pe_cmpR op_ge (pv 0) (pv 1) (nomark _))))))), ?_⟩
    refine ⟨_, rfl, _, _, _, _, true, rfl, .ty "int", .base (.int i), kit_ty (by decide +kernel), _, rfl, iteT ?_⟩
    refine ⟨_, rfl, _, _, _, _, false, rfl, .ty "bool", .base (.int i), kit_ty (by decide +kernel), _, rfl, _, rfl, iteT ?_⟩
    exact ⟨_, rfl, _, rfl, _, _, rfl, rfl, hq⟩
theorem sc_is_price : FnScope ["thing"] ["thing"] (defScope s_is_price) := ⟨rfl, rfl, rfl, by decide +kernel, rfl, by decide +kernel, by decide +kernel⟩
theorem ok_is_price (D : DefAt K mg "is_price" s_is_price ["thing"]) (B : TxB mg) (C : TxC K mg) : FnOk P w K mg base CX0 2 D.f D.fd ["thing"] spIsPrice := by
  have Gn : FnOk P w K mg base CX0 1 C.num.f C.num.fd ["thing", "least"] spIsNumber := ok_is_number C.num B
  refine D.F.ok sc_is_price (fun vs H Q E h => ?_) (fun cdv A outer s H vs Q E hr h => ?_)
  · obtain ⟨z, rfl, _⟩ := h
    rfl
  · obtain ⟨o, rfl, ho, hq⟩ := h
    refine ⟨_, (pss_one (ps_ret (pe_or (pe_cmpR op_isN (pv 0) pe_non (nomark _)) (pe_one (pe_call Gn hr rfl C.num.g C.num.F.kp C.num.b .nil pass0 (pa_cons (pv 0) (pa_cons pe_int pa_nil))))))), ?_⟩
    cases o with
    | none =>
      refine ⟨_, rfl, rfl, _, rfl, ?_⟩
      exact iteT hq
    | some i =>
      refine ⟨_, rfl, rfl, _, rfl, ?_⟩
      refine iteF ⟨_, rfl, i, 1, rfl, ?_⟩
      have hi : 1 ≤ i := ho
      rw [decide_eq_true hi]
      exact hq
end
end Ts

set_option maxRecDepth 100000
set_option maxHeartbeats 4000000
namespace Ts
open PySem L2
theorem kit_seqL {K : PySem.W.Frag} : PySem.W.kitAny K (.type "list") [.type "list", .type "tuple"] = some true := kitAny_cons (b := true) (kit_ty (by decide +kernel)) (fun e => nomatch e) fun _ => rfl
theorem kit_seqT {K : PySem.W.Frag} : PySem.W.kitAny K (.type "tuple") [.type "list", .type "tuple"] = some true := kitAny_cons (b := false) (kit_ty (by decide +kernel)) (fun _ => kitAny_cons (b := true) (kit_ty (by decide +kernel)) (fun e => nomatch e) fun _ => rfl) fun e => nomatch e
/-- a list or a tuple, made at run time -/
def Seq (H : Hp) (a : Addr) (xs : List V) : Prop := H a = some (.tup xs) ∨ H a = some (.lst xs)
theorem Seq.same {H H' : Hp} {a : Addr} {xs : List V} (h : Seq H a xs) (s : Same H H') : Seq H' a xs := h.imp (s _ _) (s _ _)
theorem Seq.ty {K : PySem.W.Frag} {H : Hp} {a : Addr} {xs : List V} (h : Seq H a xs) : ∃ t, TyX K H (.ref a) t ∧ PySem.W.kitAny K t [.type "list", .type "tuple"] = some true := by
  rcases h with h | h
  · exact ⟨_, .base (.tup h), kit_seqT⟩
  · exact ⟨_, .base (.lst h), kit_seqL⟩
theorem Seq.or {K : PySem.W.Frag} {H : Hp} {a : Addr} {xs : List V} (h : Seq H a xs) : SqL K H a xs ∨ SqT K H a xs := by
  rcases h with h | h
  · exact .inr (.inl (.inl h))
  · exact .inl (SqL.of h)
theorem sqT {K : PySem.W.Frag} {H : Hp} {a : Addr} {xs : List V} (h : H a = some (.tup xs)) : SqT K H a xs := .inl (.inl h)
/-- enumerate(x), x a list or a tuple in slot i -/
def iEnumS (i : Nat) : TI := fun σ H R => ∃ (a : Addr) (xs : List V), σ[i]? = some (some (.ref a)) ∧ Seq H a xs ∧ ∀ J, Walk J xs.length (fun H' => H' a = H a) (YPair (fun j => some (.int (j : Nat))) (fun j => xs[j]?)) → R J H
theorem pi_enumS {X : Cx} {x : Str} {px : Pos} {i : Nat} {p pos tpos : Pos} {elts : List Expr} {kk : Nat} (hg : Gl X "enumerate") (hm : X.mg "enumerate" = none) (he : PE X (.Name x px) (tVar i)) :
    PI X (.Tuple elts kk tpos) (.Call (.Name "enumerate" p) [.Name x px] [] pos) (iEnumS i) := by
  refine ⟨fun pins s σ H R I h => ?_⟩
  obtain ⟨a, xs, e1, hq, k⟩ := h
  rcases hq with hq | hq
  · exact (pi_enumT hg hm (pa_cons he pa_nil)).run pins s σ H R I ⟨_, e1, a, xs, rfl, sqT hq, k _ (walk_enumT.mono (fun H' e => sqT (e.trans hq)) fun _ _ _ _ _ _ y => y)⟩
  · exact (pi_enum hg hm (pa_cons he pa_nil)).run pins s σ H R I ⟨_, e1, a, xs, rfl, SqL.of hq, k _ (walk_enum.mono (fun H' e => SqL.of (e.trans hq)) fun _ _ _ _ _ _ y => y)⟩
/-- x itself, a list or a tuple in slot i -/
def iSeqS (i : Nat) : TI := fun σ H R => ∃ (a : Addr) (xs : List V), σ[i]? = some (some (.ref a)) ∧ Seq H a xs ∧ ∀ J, Walk J xs.length (fun H' => H' a = H a) (YAt xs) → R J H
theorem pi_seqS {X : Cx} {e tg : Expr} {i : Nat} (he : PE X e (tVar i)) : PI X tg e (iSeqS i) := by
  refine ⟨fun pins s σ H R I h => ?_⟩
  obtain ⟨a, xs, e1, hq, k⟩ := h
  rcases hq with hq | hq
  · exact (pi_tup he).run pins s σ H R I ⟨_, e1, a, rfl, ⟨_, sqT hq⟩, k _ (walk_tup.mono (fun H' e => sqT (e.trans hq)) fun _ _ _ _ _ _ y => y)⟩
  · exact (pi_list he).run pins s σ H R I ⟨_, e1, a, rfl, ⟨_, SqL.of hq⟩, k _ (walk_list.mono (fun H' e => SqL.of (e.trans hq)) fun _ _ _ _ _ _ y => y)⟩
theorem take_more {α : Type} : ∀ {l : List α} {i : Nat} {x : α}, l[i]? = some x → l.take (i + 1) = l.take i ++ [x]
  | [], i, x, h => by simp at h
  | a :: l, 0, x, h => by
    have e : a = x := Option.some.inj h
    subst e
    rfl
  | a :: l, i + 1, x, h => by
    have ih := take_more (l := l) (i := i) (x := x) (by simpa using h)
    rw [List.take_succ_cons, ih]
    rfl
theorem fold_take {rs : List Row} {i : Nat} {r : Row} (h : rs[i]? = some r) : folderNames (rs.take (i + 1)) = folderNames (rs.take i) ++ (if r.ki = ("folder" : Str) then [r.nm] else []) := by
  rw [take_more h, folders_snoc]
def spIsRow : Sp := fun vs H Q _ => ∃ (a d1 d2 : Addr) (r : Row) (kv1 kv2 : List (Key × V)), vs = [.ref a, .ref d1, .ref d2] ∧ Seq H a (rowVs r) ∧ H d1 = some (.dK kv1) ∧ valV kv1 (.inr r.nm : Key) = none ∧ H d2 = some (.dK kv2) ∧ (valV kv2 (.inr r.fo : Key)).isSome = true ∧
  NameShape r.nm ∧ r.nm ≠ ("top" : Str) ∧ r.ki ∈ kinds3 ∧ PriceOk r.pr ∧ ∀ H', Same H H' → Q (.bl true) H'
def spCheckRows (K : PySem.W.Frag) : Sp := fun vs H Q _ => ∃ (rw nm fo : Addr) (ns hs : List Str) (as : List Addr) (rs : List Row), vs = [.ref rw, .ref nm, .ref fo] ∧ Seq H rw (as.map V.ref) ∧ SeqRows H as rs ∧ SqT K H nm (ns.map V.str) ∧ SqT K H fo (hs.map V.str) ∧ rs.length ≤ 100 ∧ ns.length ≤ 100 ∧ hs.length ≤ 100 ∧
  (∀ i r, rs[i]? = some r → FitsB ns hs (rs.take i) r) ∧ ∀ H', Same H H' → Q .non H'
section
variable {P : Program} {w : World} {K : PySem.W.Frag} {mg : Str → Option Value} {base : Heap}
abbrev nIsRow : List Str := ["thing", "taken", "homes", "name", "folder", "kind", "price"]
theorem sc_is_row : FnScope nIsRow ["thing", "taken", "homes"] (defScope s_is_row) := ⟨rfl, rfl, rfl, by decide +kernel, rfl, by decide +kernel, by decide +kernel⟩
theorem ok_is_row (D : DefAt K mg "is_row" s_is_row ["thing", "taken", "homes"]) (Dn : DefAt K mg "is_name" s_is_name ["thing"]) (Dp : DefAt K mg "is_price" s_is_price ["thing"]) (B : TxB mg) (C : TxC K mg) : FnOk P w K mg base CX0 3 D.f D.fd ["thing", "taken", "homes"] spIsRow := by
  have Gn : FnOk P w K mg base CX0 2 Dn.f Dn.fd ["thing"] spIsName := ok_is_name Dn B C
  have Gp : FnOk P w K mg base CX0 2 Dp.f Dp.fd ["thing"] spIsPrice := ok_is_price Dp B C
  refine D.F.ok sc_is_row (fun vs H Q E h => ?_) (fun cdv A outer s H vs Q E hr h => ?_)
  · obtain ⟨a, d1, d2, r, kv1, kv2, rfl, _⟩ := h
    rfl
  · obtain ⟨a, d1, d2, r, kv1, kv2, rfl, ha, h1, v1, h2, v2, hn, ht, hk, hp, hq⟩ := h
    have hu := hu_of hr
    refine ⟨_, pss_cons (ps_if (PW.pt (pw_or (pt_not (pt_val (pe_callB call_isiT (by rfl) B.isinstance (by decide +kernel) (pa_cons (pv 0) (pa_cons (pe_tup (pa_cons (pe_bltn (by rfl) B.list (by decide +kernel) (v := .ty "list") rfl) (pa_cons (pe_bltn (by rfl) B.tuple (by decide +kernel) (v := .ty "tuple") rfl) pa_nil))) pa_nil)))))
        (pw_or1 (pt_cmpR op_ne (pe_callB call_len_seq (by rfl) B.len PySem.boot_len (pa_cons (pv 0) pa_nil)) pe_int (nomark _))))) (pss_one (ps_ret pe_bl)) pss_nil)
      (C8.pss_cut (ps_asg (pv 0) (pg_or (pg_tup rfl (pgs_cons (pg_name (i := 3) sc_is_row.nd rfl (.inl rfl)) (pgs_cons (pg_name (i := 4) sc_is_row.nd rfl (.inl rfl)) (pgs_cons (pg_name (i := 5) sc_is_row.nd rfl (.inl rfl)) (pgs_cons (pg_name (i := 6) sc_is_row.nd rfl (.inl rfl)) pgs_nil)))))
          (pg_unl rfl (pgs_cons (pg_name (i := 3) sc_is_row.nd rfl (.inl rfl)) (pgs_cons (pg_name (i := 4) sc_is_row.nd rfl (.inl rfl)) (pgs_cons (pg_name (i := 5) sc_is_row.nd rfl (.inl rfl)) (pgs_cons (pg_name (i := 6) sc_is_row.nd rfl (.inl rfl)) pgs_nil)))))))
      (pss_cons (ps_if (PW.pt (pw_or (pt_not (pt_val (pe_call Gn hr rfl Dn.g Dn.F.kp Dn.b .nil pass0 (pa_cons (pv 3) pa_nil)))) (pw_or1 (pt_cmp (pc_din hu (pv 3) (pv 1)))))) (pss_one (ps_ret pe_bl)) pss_nil)
      (pss_cons (ps_if (PW.pt (pw_or (pt_not (pt_val (pe_callB call_isi (by rfl) B.isinstance (by decide +kernel) (pa_cons (pv 4) (pa_cons (pe_bltn (by rfl) B.str (by decide +kernel) (v := .ty "str") rfl) pa_nil))))) (pw_or1 (pt_cmp (pc_dnotin hu (pv 4) (pv 2)))))) (pss_one (ps_ret pe_bl)) pss_nil)
      (pss_one (ps_ret (pe_and (pe_cmpR op_in_seq (pv 5) (pe_glob (by rfl) C.kinds (v := .ref C.kindsA) rfl) (by rfl)) (pe_one (pe_call Gp hr rfl Dp.g Dp.F.kp Dp.b .nil pass0 (pa_cons (pv 6) pa_nil)))))))))
      , ?_⟩
    refine ⟨_, rfl, (by show 2 ≤ sizeLine; decide), fun tp htp => ?_⟩
    have s1 : Same H (upd H tp (.tup [.ty "list", .ty "tuple"])) := Same.new htp
    obtain ⟨t, ty, kk⟩ := (ha.same s1).ty (K := K)
    refine ⟨_, tp, _, t, _, true, rfl, upd_same, .cons (.ty "list") (.cons (.ty "tuple") .nil), ty, kk, _, rfl, iteF ?_⟩
    refine ⟨_, rfl, a, _, rfl, (ha.same s1).or, rfl, _, rfl, ?_⟩
    refine iteF ?_
    have un : SqT K (upd H tp (.tup [.ty "list", .ty "tuple"])) a (rowVs r) ∨ SqL K (upd H tp (.tup [.ty "list", .ty "tuple"])) a (rowVs r) := (ha.same s1).or.symm
    refine ⟨fun σ' H' => σ' = [some (.ref a), some (.ref d1), some (.ref d2), some (.str r.nm), some (.str r.fo), some (.str r.ki), some (prV r.pr)] ∧ H' = upd H tp (.tup [.ty "list", .ty "tuple"]), ?_, ?_⟩
    · refine ⟨_, rfl, ?_⟩
      rcases un with un | un
      · exact .inl ⟨a, _, rfl, un, rfl, _, _, rfl, _, _, rfl, _, _, rfl, _, _, rfl, rfl, rfl, rfl⟩
      · exact .inr ⟨a, _, rfl, un, rfl, _, _, rfl, _, _, rfl, _, _, rfl, _, _, rfl, rfl, rfl, rfl⟩
    rintro σ' H' ⟨rfl, rfl⟩
    refine ⟨_, rfl, r.nm, rfl, hn, ht, _, rfl, iteF ?_⟩
    refine ⟨_, rfl, _, rfl, d1, _, rfl, DGet.k (k := Sum.inr r.nm) (s1 _ _ h1), _, rfl, ?_⟩
    rw [v1]
    refine iteF ?_
    refine ⟨_, rfl, _, _, _, _, true, rfl, .ty "str", .base (.str r.fo), kit_ty (by decide +kernel), _, rfl, iteF ?_⟩
    refine ⟨_, rfl, _, rfl, d2, _, rfl, DGet.k (k := Sum.inr r.fo) (s1 _ _ h2), _, rfl, ?_⟩
    rw [v2]
    refine iteF ?_
    refine ⟨_, rfl, C.kindsA, _, rfl, .inr (.inr C.kindsT), rfl, flat_strs _, _, rfl, ?_⟩
    have e : (if false = true then !inV (.str r.ki) (kinds3.map V.str) else inV (.str r.ki) (kinds3.map V.str)) = true := by
      rw [if_neg Bool.false_ne_true, inV_strs]
      exact decide_eq_true hk
    rw [e]
    exact iteT ⟨_, rfl, r.pr, rfl, hp, hq _ s1⟩
abbrev nCheckRows : List Str := ["rows", "names", "folders", "taken", "homes", "index", "row", "name", "folder", "kind", "price"]
theorem sc_check_rows : FnScope nCheckRows ["rows", "names", "folders"] (defScope s_check_rows) := ⟨rfl, rfl, rfl, by decide +kernel, rfl, by decide +kernel, by decide +kernel⟩
theorem ok_check_rows (D : DefAt K mg "check_rows" s_check_rows ["rows", "names", "folders"]) (Dr : DefAt K mg "is_row" s_is_row ["thing", "taken", "homes"]) (Dn : DefAt K mg "is_name" s_is_name ["thing"]) (Dp : DefAt K mg "is_price" s_is_price ["thing"]) (B : TxB mg) (C : TxC K mg) :
    FnOk P w K mg base CX0 4 D.f D.fd ["rows", "names", "folders"] (spCheckRows K) := by
  have Gr : FnOk P w K mg base CX0 3 Dr.f Dr.fd ["thing", "taken", "homes"] spIsRow := ok_is_row Dr Dn Dp B C
  obtain ⟨t1, gF⟩ := C.folder
  refine D.F.ok sc_check_rows (fun vs H Q E h => ?_) (fun cdv A outer s H vs Q E hr h => ?_)
  · obtain ⟨rw, nm, fo, ns, hs, as, rs, rfl, _⟩ := h
    rfl
  · obtain ⟨rw, nm, fo, ns, hs, as, rs, rfl, hrw, hrows, hnm, hfo, hl, hln, hlh, hfit, hq⟩ := h
    have hu := hu_of hr
    refine ⟨_, pss_cons (ps_if (pt_not (pt_val (pe_callB call_isiT (by rfl) B.isinstance (by decide +kernel) (pa_cons (pv 0) (pa_cons (pe_tup (pa_cons (pe_bltn (by rfl) B.list (by decide +kernel) (v := .ty "list") rfl) (pa_cons (pe_bltn (by rfl) B.tuple (by decide +kernel) (v := .ty "tuple") rfl) pa_nil))) pa_nil))))) (pss_one ps_never) pss_nil)
      (pss_cons (ps_setDc (i := 3) (own := [("name", 7)]) (g := gName 7) (tt := tYes) rfl sc_check_rows.nd rfl rfl (swd_true rfl rfl rfl (by decide +kernel)) (pi_tup (pv 1)) (blkOk_by (N := nCheckRows) (sc := defScope s_check_rows) (by decide +kernel))
        (fun _ _ _ _ _ => pg_name (i := 7) sc_check_rows.nd rfl (Or.inl rfl)) (fun _ _ _ _ _ => pts_nil) (fun _ _ _ _ _ => pv 7) (fun _ _ _ _ _ => pe_bl))
      (pss_cons (ps_setDc (i := 4) (own := [("folder", 8)]) (g := gName 8) (tt := tYes) rfl sc_check_rows.nd rfl rfl (swd_true rfl rfl rfl (by decide +kernel)) (pi_tup (pv 2)) (blkOk_by (N := nCheckRows) (sc := defScope s_check_rows) (by decide +kernel))
        (fun _ _ _ _ _ => pg_name (i := 8) sc_check_rows.nd rfl (Or.inl rfl)) (fun _ _ _ _ _ => pts_nil) (fun _ _ _ _ _ => pv 8) (fun _ _ _ _ _ => pe_bl))
      (pss_one (ps_for PassesOwn.never rfl (pi_enumS (by rfl) B.enumerate (pv 0)) (pg_tup rfl (pgs_cons (pg_name (i := 5) sc_check_rows.nd rfl (.inl rfl)) (pgs_cons (pg_name (i := 6) sc_check_rows.nd rfl (.inl rfl)) pgs_nil)))
        (pss_cons (ps_if (pt_not (pt_val (pe_call Gr hr rfl Dr.g Dr.F.kp Dr.b .nil pass0 (pa_cons (pv 6) (pa_cons (pv 3) (pa_cons (pv 4) pa_nil)))))) (pss_one ps_never) pss_nil)
        (C8.pss_cut (ps_asg (pv 6) (pg_or (pg_tup rfl (pgs_cons (pg_name (i := 7) sc_check_rows.nd rfl (.inl rfl)) (pgs_cons (pg_name (i := 8) sc_check_rows.nd rfl (.inl rfl)) (pgs_cons (pg_name (i := 9) sc_check_rows.nd rfl (.inl rfl)) (pgs_cons (pg_name (i := 10) sc_check_rows.nd rfl (.inl rfl)) pgs_nil)))))
          (pg_unl rfl (pgs_cons (pg_name (i := 7) sc_check_rows.nd rfl (.inl rfl)) (pgs_cons (pg_name (i := 8) sc_check_rows.nd rfl (.inl rfl)) (pgs_cons (pg_name (i := 9) sc_check_rows.nd rfl (.inl rfl)) (pgs_cons (pg_name (i := 10) sc_check_rows.nd rfl (.inl rfl)) pgs_nil)))))))
        (pss_cons (ps_dput hu (pv 3) (pv 7) pe_bl rfl)
        (pss_one (ps_if (pt_cmpR op_eq (pv 9) (pe_glob (by rfl) gF (v := .str ("folder" : Str)) ⟨_, rfl⟩) (nomark _)) (pss_one (ps_dput hu (pv 4) (pv 7) pe_bl rfl)) pss_nil)))))))))
      , ?_⟩
    refine ⟨_, rfl, (by show 2 ≤ sizeLine; decide), fun tp htp => ?_⟩
    have s1 : Same H (upd H tp (.tup [.ty "list", .ty "tuple"])) := Same.new htp
    obtain ⟨t, ty, kk⟩ := (hrw.same s1).ty (K := K)
    refine ⟨_, tp, _, t, _, true, rfl, upd_same, .cons (.ty "list") (.cons (.ty "tuple") .nil), ty, kk, _, rfl, iteF ?_⟩
    generalize upd H tp (.tup [.ty "list", .ty "tuple"]) = H1 at s1 ty
    have dict : ∀ (l : List Str) (td : Addr) (H1 H' : Hp) (i : Nat) (x : V), (l.map V.str)[i]? = some x → MemD H' td (l.take i) → ∃ (z : Str) (kv : List (Key × V)), x = .str z ∧ l[i]? = some z ∧ H' td = some (.dK kv) ∧ (∀ z : Str, (valV kv (.inr z : Key)).isSome = decide (z ∈ l.take i)) ∧ kv.length ≤ (l.take i).length := by
      intro l td H1 H' i x hx m
      rw [List.getElem?_map] at hx
      obtain ⟨z, hz, rfl⟩ := Option.map_eq_some_iff.mp hx
      obtain ⟨kv, e1, e2, e3⟩ := m.ex
      exact ⟨z, kv, rfl, hz, e1, e2, e3⟩
    refine ⟨_, rfl, nm, rfl, ⟨_, hnm.ext s1⟩, fun td htd => ?_⟩
    refine dc_tup (K := K) (a := nm) (xs := ns.map V.str) (fun i H' => Same H1 H' ∧ MemD H' td (ns.take i)) ⟨Same.new htd, [], upd_same, fun z => rfl, Nat.le_refl _⟩ (fun i H' _ m => hnm.ext (s1.trans m.1)) ?_ ?_
    · rintro i x H' hx ⟨sm, m⟩
      obtain ⟨z, kv, rfl, hz, e1, e2, e3⟩ := dict ns td H1 H' i x hx m
      refine ⟨rfl, tYes_if ⟨_, rfl, kv, .inr z, rfl, e1, small1000 (by rw [List.length_take] at e3; omega), fun b o e => ?_, ?_⟩⟩
      · rw [upd_ne (fun q => by rw [q, htd] at e; cases e)]
        exact sm b o e
      · rw [take_more hz]
        exact MemD.put e2 e3 z _
    · rintro H2 ⟨sm, m⟩
      rw [List.length_map, List.take_length] at m
      have s2 := s1.trans sm
      refine ⟨_, rfl, fo, rfl, ⟨_, hfo.ext s2⟩, fun hd hhd => ?_⟩
      have nth : td ≠ hd := by obtain ⟨kv, e1, _⟩ := m.ex; exact ne_of_none e1 hhd
      refine dc_tup (K := K) (a := fo) (xs := hs.map V.str) (fun i H' => Same H2 H' ∧ MemD H' hd (hs.take i)) ⟨Same.new hhd, [], upd_same, fun z => rfl, Nat.le_refl _⟩ (fun i H' _ m => hfo.ext (s2.trans m.1)) ?_ ?_
      · rintro i x H' hx ⟨sm, m⟩
        obtain ⟨z, kv, rfl, hz, e1, e2, e3⟩ := dict hs hd H2 H' i x hx m
        refine ⟨rfl, tYes_if ⟨_, rfl, kv, .inr z, rfl, e1, small1000 (by rw [List.length_take] at e3; omega), fun b o e => ?_, ?_⟩⟩
        · rw [upd_ne (fun q => by rw [q, hhd] at e; cases e)]
          exact sm b o e
        · rw [take_more hz]
          exact MemD.put e2 e3 z _
      · rintro H3 ⟨sm3, m3⟩
        rw [List.length_map, List.take_length] at m3
        have s3 := s2.trans sm3
        have mt : MemD H3 td ns := by
          obtain ⟨kv, e1, e⟩ := m.ex
          exact ⟨kv, sm3 _ _ e1, e⟩
        have ftd : H td = none := s1.free htd
        have fhd : H hd = none := s2.free hhd
        refine ⟨rw, _, rfl, hrw.same s3, fun J W => ?_⟩
        refine for_it W (fun i σ H' => ∃ (v5 v6 v7 v8 v9 v10 : Option V), σ = [some (.ref rw), some (.ref nm), some (.ref fo), some (.ref td), some (.ref hd), v5, v6, v7, v8, v9, v10] ∧ Same H H' ∧ H' rw = H3 rw ∧ MemD H' td (ns ++ (rs.take i).map (·.nm)) ∧ MemD H' hd (hs ++ folderNames (rs.take i))) ⟨none, none, none, none, none, none, rfl, s3, rfl, by simpa using mt, by simpa [folderNames] using m3⟩ (fun i σ H' _ ⟨_, _, _, _, _, _, _, _, e, _⟩ => e) ?_ ?_
        · rintro i x σ H4 H5 hi ⟨v5, v6, v7, v8, v9, v10, rfl, s4, e4, mt, mh⟩ ⟨T, xi, xr, rfl, hT, rfl, exi, exr⟩
          rw [List.length_map] at hi
          have exr' : (as.map V.ref)[i]? = some xr := exr
          rw [List.getElem?_map] at exr'
          obtain ⟨ra, hra, rfl⟩ := Option.map_eq_some_iff.mp exr'
          obtain ⟨r, hr'⟩ : ∃ r, rs[i]? = some r := ⟨rs[i]'(by rw [← hrows.len]; exact hi), List.getElem?_eq_getElem _⟩
          have fit := hfit i r hr'
          obtain rfl := Option.some.inj exi
          have s5 : Same H (upd H4 T (.tup [.int (i : Nat), .ref ra])) := s4.trans (Same.new hT)
          have rr : Seq (upd H4 T (.tup [.int (i : Nat), .ref ra])) ra (rowVs r) := Seq.same (hrows.at_ i ra r hra hr') s5
          obtain ⟨kt, et, pt, lt⟩ := mt.ex
          obtain ⟨kh, eh, ph, lh⟩ := mh.ex
          have nt : td ≠ T := ne_of_none et hT
          have nh : hd ≠ T := ne_of_none eh hT
          have i100 : i < 100 := by rw [← hrows.len] at hl; omega
          refine ⟨T, _, rfl, sqT upd_same, rfl, _, _, rfl, _, _, rfl, rfl, ?_⟩
          refine ⟨_, rfl, _, rfl, _, rfl, ra, td, hd, r, kt, kh, rfl, rr, by rw [upd_ne nt]; exact et, ?_, by rw [upd_ne nh]; exact eh, ?_, fit.shape, fit.top, fit.kind, fit.price, fun H6 s6 => ?_⟩
          · have q := pt r.nm
            rw [decide_eq_false fit.new] at q
            simpa using q
          · rw [ph r.fo]
            exact decide_eq_true fit.home
          refine ⟨_, rfl, iteF ?_⟩
          refine ⟨fun σ' H' => σ' = [some (.ref rw), some (.ref nm), some (.ref fo), some (.ref td), some (.ref hd), some (.int (i : Nat)), some (.ref ra), some (.str r.nm), some (.str r.fo), some (.str r.ki), some (prV r.pr)] ∧ H' = H6, ?_, ?_⟩
          · refine ⟨_, rfl, ?_⟩
            rcases rr.same s6 with un | un
            · exact .inl ⟨ra, _, rfl, sqT un, rfl, _, _, rfl, _, _, rfl, _, _, rfl, _, _, rfl, rfl, rfl, rfl⟩
            · exact .inr ⟨ra, _, rfl, SqL.of un, rfl, _, _, rfl, _, _, rfl, _, _, rfl, _, _, rfl, rfl, rfl, rfl⟩
          rintro σ' H' ⟨rfl, rfl⟩
          have et6 : H' td = some (.dK kt) := s6 _ _ (by rw [upd_ne nt]; exact et)
          have eh6 : H' hd = some (.dK kh) := s6 _ _ (by rw [upd_ne nh]; exact eh)
          have lt' : kt.length ≤ 300 := by
            rw [List.length_append, List.length_map, List.length_take] at lt; omega
          have lh' : kh.length ≤ 300 := by
            have := folders_le (rs.take i)
            rw [List.length_take] at this
            rw [List.length_append] at lh; omega
          refine ⟨_, rfl, _, rfl, td, _, rfl, DPut.k (k := Sum.inr r.nm) et6 (small1000 (by omega)), ?_⟩
          have s7 : Same H (upd H' td (.dK (putK kt (.inr r.nm) (.bl true)))) := fun b o e => by
            rw [upd_ne (fun q => by rw [q, ftd] at e; cases e)]
            exact s6 _ _ (s5 b o e)
          have mt7 : ns ++ (rs.take (i + 1)).map (·.nm) = ns ++ (rs.take i).map (·.nm) ++ [r.nm] := by rw [take_more hr', List.map_append, List.append_assoc]; rfl
          have mT : MemD (upd H' td (.dK (putK kt (.inr r.nm) (.bl true)))) td (ns ++ (rs.take (i + 1)).map (·.nm)) := by rw [mt7]; exact MemD.put pt lt _ _
          have rw4 : H4 rw = some (.tup (as.map V.ref)) ∨ H4 rw = some (.lst (as.map V.ref)) := hrw.same s4
          have keep : ∀ {b : Addr} {o : HO}, H4 b = some o → b ≠ td → (upd H' td (.dK (putK kt (.inr r.nm) (.bl true)))) b = some o := fun {b o} e nb => by
            rw [upd_ne nb]
            exact s6 _ _ (by rw [upd_ne (ne_of_none e hT)]; exact e)
          have ert : rw ≠ td := fun q => by rcases rw4 with z | z <;> (rw [q, et] at z; cases z)
          have erh : rw ≠ hd := fun q => by rcases rw4 with z | z <;> (rw [q, eh] at z; cases z)
          have erw : (upd H' td (.dK (putK kt (.inr r.nm) (.bl true)))) rw = H3 rw := by
            rw [← e4]
            rcases rw4 with z | z <;> (rw [z]; exact keep z ert)
          refine ⟨_, rfl, rfl, _, rfl, ?_⟩
          refine ite2 (fun hk => ?_) (fun hk => ?_)
          · have hk' : r.ki = ("folder" : Str) := V.str.inj (of_decide_eq_true hk)
            refine ⟨_, rfl, _, rfl, hd, _, rfl, DPut.k (k := Sum.inr r.nm) (Eq.trans (upd_ne nth.symm) eh6) (small1000 (by omega)), ?_⟩
            refine ⟨_, _, _, _, _, _, rfl, fun b o e => ?_, ?_, mT.same (upd_ne nth), ?_⟩
            · rw [upd_ne (fun q => by rw [q, fhd] at e; cases e)]
              exact s7 b o e
            · rw [upd_ne erh]; exact erw
            · rw [fold_take hr', if_pos hk', ← List.append_assoc]
              exact MemD.put ph lh _ _
          · have hk' : ¬ r.ki = ("folder" : Str) := fun q => hk (decide_eq_true (by rw [q]))
            refine ⟨_, _, _, _, _, _, rfl, s7, erw, mT, ?_⟩
            rw [fold_take hr', if_neg hk', List.append_nil]
            exact ⟨kh, Eq.trans (upd_ne nth.symm) eh6, ph, lh⟩
        · rintro σ H4 ⟨v5, v6, v7, v8, v9, v10, rfl, s4, _⟩
          exact hq _ s4
end
end Ts

set_option maxRecDepth 100000
set_option maxHeartbeats 4000000
namespace Ts
open PySem L2
/-! ### a tree as it stands -/
theorem qf_ : ¬ (("quads" : Str) = "folders") := by decide +kernel
theorem qk_ : ¬ (("quads" : Str) = "kinds") := by decide +kernel
theorem qp_ : ¬ (("quads" : Str) = "prices") := by decide +kernel
theorem fk_ : ¬ (("folders" : Str) = "kinds") := by decide +kernel
theorem fp_ : ¬ (("folders" : Str) = "prices") := by decide +kernel
theorem kp_ : ¬ (("kinds" : Str) = "prices") := by decide +kernel
def tf (q f k p : Addr) : List (Str × V) := putF "prices" (.ref p) (putF "kinds" (.ref k) (putF "folders" (.ref f) (putF "quads" (.ref q) [])))
theorem tf_q (q f k p : Addr) : (tf q f k p).lookup ("quads" : Str) = some (.ref q) := by
  unfold tf
  rw [lookup_putF, if_neg qp_, lookup_putF, if_neg qk_, lookup_putF, if_neg qf_, lookup_putF, if_pos rfl]
theorem tf_f (q f k p : Addr) : (tf q f k p).lookup ("folders" : Str) = some (.ref f) := by
  unfold tf
  rw [lookup_putF, if_neg fp_, lookup_putF, if_neg fk_, lookup_putF, if_pos rfl]
theorem tf_k (q f k p : Addr) : (tf q f k p).lookup ("kinds" : Str) = some (.ref k) := by
  unfold tf
  rw [lookup_putF, if_neg kp_, lookup_putF, if_pos rfl]
theorem tf_p (q f k p : Addr) : (tf q f k p).lookup ("prices" : Str) = some (.ref p) := by
  unfold tf
  rw [lookup_putF, if_pos rfl]
theorem tf_no (q f k p : Addr) {m : Str} (h1 : ¬ m = "quads") (h2 : ¬ m = "folders") (h3 : ¬ m = "kinds") (h4 : ¬ m = "prices") : (tf q f k p).lookup m = none := by
  unfold tf
  rw [lookup_putF, if_neg h4, lookup_putF, if_neg h3, lookup_putF, if_neg h2, lookup_putF, if_neg h1]
  rfl
theorem putF_len (n : Str) (v : V) : ∀ l : List (Str × V), (putF n v l).length ≤ l.length + 1
  | [] => Nat.le_refl _
  | p :: r => by
    have ih := putF_len n v r
    show (if p.1 = n then (p.1, v) :: r else p :: putF n v r).length ≤ _
    split
    · exact Nat.le_succ _
    · rw [List.length_cons, List.length_cons]; omega
def kvF (g : Row → V) (l : List Row) : List (Key × V) := l.map fun r => (.inr r.nm, g r)
theorem valV_kvF (g : Row → V) (z : Str) : ∀ l : List Row, valV (kvF g l) (.inr z : Key) = (l.find? fun r => decide (r.nm = z)).map g
  | [] => rfl
  | r :: l => by
    have ih := valV_kvF g z l
    by_cases e : r.nm = z
    · show valV ((.inr r.nm, g r) :: kvF g l) (.inr z : Key) = _
      rw [valV_pos (by rw [e]), List.find?_cons_of_pos (by simpa using e)]
      rfl
    · show valV ((.inr r.nm, g r) :: kvF g l) (.inr z : Key) = _
      rw [valV_neg (fun q => e (Sum.inr.inj q)), List.find?_cons_of_neg (by simpa using e)]
      exact ih
theorem find_none {l : List Row} {z : Str} (h : z ∉ l.map (·.nm)) : (l.find? fun r => decide (r.nm = z)) = none := by
  rw [List.find?_eq_none]
  intro r hr
  simp only [decide_eq_true_eq]
  exact fun q => h (List.mem_map.mpr ⟨r, hr, q⟩)
theorem kvF_more {g : Row → V} {rs : List Row} {i : Nat} {r : Row} (h : rs[i]? = some r) (hn : r.nm ∉ (rs.take i).map (·.nm)) : putK (kvF g (rs.take i)) (.inr r.nm) (g r) = kvF g (rs.take (i + 1)) := by
  rw [putK_new _ (by rw [valV_kvF, find_none hn]; rfl), take_more h]
  unfold kvF
  rw [List.map_append]
  rfl
structure TreeAt (C : Addr) (H : Hp) (t : Addr) (rs : List Row) : Prop where
  ex : ∃ (dx q f k p : Addr) (qs : List Addr), H t = some (.ins C dx (tf q f k p)) ∧ H q = some (.tup (qs.map V.ref)) ∧ RowsAt H qs rs ∧ H f = some (.dK (kvF (fun r => .str r.fo) rs)) ∧ H k = some (.dK (kvF (fun r => .str r.ki) rs)) ∧ H p = some (.dK (kvF (fun r => prV r.pr) rs))
  val : Valid rs
  len : rs.length ≤ 100
theorem TreeAt.same {C : Addr} {H H' : Hp} {t : Addr} {rs : List Row} (h : TreeAt C H t rs) (s : Same H H') : TreeAt C H' t rs := by
  obtain ⟨dx, q, f, k, p, qs, h1, h2, h3, h4, h5, h6⟩ := h.ex
  exact ⟨⟨dx, q, f, k, p, qs, s _ _ h1, s _ _ h2, h3.same s, s _ _ h4, s _ _ h5, s _ _ h6⟩, h.val, h.len⟩
structure TxT (K : PySem.W.Frag) (mg : Str → Option Value) (C : Addr) : Prop where
  cl : Cls K C
  nq : NoAttr K C "quads"
  nf : NoAttr K C "folders"
  nk : NoAttr K C "kinds"
  np : NoAttr K C "prices"
  g : mg "Tree" = some (.ref C)
def rTupOf (K : PySem.W.Frag) : List V → Hp → VK → Prop := fun xs H Q => ∃ p ys, xs = [V.ref p] ∧ ((SqL K H p ys ∧ ∀ l, H l = none → Q (V.ref l) (upd H l (.tup ys))) ∨ (SqT K H p ys ∧ Q (V.ref p) H))
def spTreeInit (C : Addr) : Sp := fun vs H Q _ => ∃ (t dx rw : Addr) (as : List Addr) (rs : List Row), vs = [.ref t, .ref rw] ∧ H t = some (.ins C dx []) ∧ Seq H rw (as.map V.ref) ∧ SeqRows H as rs ∧ rs.length ≤ 100 ∧ Valid rs ∧
  ∀ H', SB t H H' → TreeAt C H' t rs → Q .non H'
section
variable {P : Program} {w : World} {K : PySem.W.Frag} {mg : Str → Option Value} {base : Heap} {C : Addr}
abbrev nTreeInit : List Str := ["self", "rows", "row", "name", "folder", "kind", "price"]
theorem sc_Tree_init : FnScope nTreeInit ["self", "rows"] (defScope s_Tree_init) := ⟨rfl, rfl, rfl, by decide +kernel, rfl, by decide +kernel, by decide +kernel⟩
theorem ok_Tree_init {f : Addr} {fd : FuncData} (F : Fun K "__init__" "Tree.__init__" s_Tree_init f fd) (Dc : DefAt K mg "check_rows" s_check_rows ["rows", "names", "folders"]) (Gc : FnOk P w K mg base CX0 4 Dc.f Dc.fd ["rows", "names", "folders"] (spCheckRows K)) (B : TxB mg) (TC : TxC K mg) (T : TxT K mg C) :
    FnOk P w K mg base CX0 5 f fd ["self", "rows"] (spTreeInit C) := by
  obtain ⟨t1, gT⟩ := TC.top
  refine F.ok sc_Tree_init (fun vs H Q E h => ?_) (fun cdv A outer s H vs Q E hr h => ?_)
  · obtain ⟨t, dx, rw, as, rs, rfl, _⟩ := h
    rfl
  · obtain ⟨t, dx, rw, as, rs, rfl, ht, hrw, hrows, hl, hv, hq⟩ := h
    refine ⟨_, pss_cons (ps_expr (pe_call Gc hr rfl Dc.g Dc.F.kp Dc.b .nil pass0 (pa_cons (pv 1) (pa_cons (pe_tup pa_nil) (pa_cons (pe_tup (pa_cons (pe_glob (by rfl) gT (v := .str ("top" : Str)) ⟨_, rfl⟩) pa_nil)) pa_nil)))))
      (pss_cons (ps_fld (pv 0) (pe_callTy call_tuple_of (by rfl) B.tuple (by decide +kernel) (pa_cons (pe_lc (own := [("row", 2)]) (g := gName 2) (tt := tYes) (te := tCB (rTupOf K) (tCons (tVar 2) tNil)) rfl sc_Tree_init.nd (pi_seqS (i := 1) (pv 1)) (blkOk_by (N := nTreeInit) (sc := defScope s_Tree_init) (by decide +kernel))
          (fun _ _ _ _ _ => pg_name (i := 2) sc_Tree_init.nd rfl (Or.inl rfl)) (fun _ _ _ _ _ => pts_nil) (fun _ _ _ _ _ => by exact pe_callTy (T := "tuple") call_tuple_of (by rfl) B.tuple (by decide +kernel) (pa_cons (pv 2) pa_nil))) pa_nil)) rfl)
      (pss_cons (ps_fld (pv 0) (pe_dc (own := [("name", 3), ("folder", 4), ("kind", 5), ("price", 6)]) (g := gTup K 4 (gCons (gName 3) (gCons (gName 4) (gCons (gName 5) (gCons (gName 6) gNil))))) (tt := tYes) rfl sc_Tree_init.nd (pi_tup (pe_fld (pv 0) rfl)) (blkOk_by (N := nTreeInit) (sc := defScope s_Tree_init) (by decide +kernel))
          (fun _ _ _ _ _ => by exact pg_tup rfl (pgs_cons (pg_name (i := 3) sc_Tree_init.nd rfl (.inl rfl)) (pgs_cons (pg_name (i := 4) sc_Tree_init.nd rfl (.inl rfl)) (pgs_cons (pg_name (i := 5) sc_Tree_init.nd rfl (.inl rfl)) (pgs_cons (pg_name (i := 6) sc_Tree_init.nd rfl (.inl rfl)) pgs_nil))))) (fun _ _ _ _ _ => pts_nil) (fun _ _ _ _ _ => pv 3) (fun _ _ _ _ _ => pv 4)) rfl)
      (pss_cons (ps_fld (pv 0) (pe_dc (own := [("name", 3), ("folder", 4), ("kind", 5), ("price", 6)]) (g := gTup K 4 (gCons (gName 3) (gCons (gName 4) (gCons (gName 5) (gCons (gName 6) gNil))))) (tt := tYes) rfl sc_Tree_init.nd (pi_tup (pe_fld (pv 0) rfl)) (blkOk_by (N := nTreeInit) (sc := defScope s_Tree_init) (by decide +kernel))
          (fun _ _ _ _ _ => by exact pg_tup rfl (pgs_cons (pg_name (i := 3) sc_Tree_init.nd rfl (.inl rfl)) (pgs_cons (pg_name (i := 4) sc_Tree_init.nd rfl (.inl rfl)) (pgs_cons (pg_name (i := 5) sc_Tree_init.nd rfl (.inl rfl)) (pgs_cons (pg_name (i := 6) sc_Tree_init.nd rfl (.inl rfl)) pgs_nil))))) (fun _ _ _ _ _ => pts_nil) (fun _ _ _ _ _ => pv 3) (fun _ _ _ _ _ => pv 5)) rfl)
      (pss_one (ps_fld (pv 0) (pe_dc (own := [("name", 3), ("folder", 4), ("kind", 5), ("price", 6)]) (g := gTup K 4 (gCons (gName 3) (gCons (gName 4) (gCons (gName 5) (gCons (gName 6) gNil))))) (tt := tYes) rfl sc_Tree_init.nd (pi_tup (pe_fld (pv 0) rfl)) (blkOk_by (N := nTreeInit) (sc := defScope s_Tree_init) (by decide +kernel))
          (fun _ _ _ _ _ => by exact pg_tup rfl (pgs_cons (pg_name (i := 3) sc_Tree_init.nd rfl (.inl rfl)) (pgs_cons (pg_name (i := 4) sc_Tree_init.nd rfl (.inl rfl)) (pgs_cons (pg_name (i := 5) sc_Tree_init.nd rfl (.inl rfl)) (pgs_cons (pg_name (i := 6) sc_Tree_init.nd rfl (.inl rfl)) pgs_nil))))) (fun _ _ _ _ _ => pts_nil) (fun _ _ _ _ _ => pv 3) (fun _ _ _ _ _ => pv 6)) rfl))))), ?_⟩
    refine ⟨_, rfl, Nat.zero_le _, fun u1 hu1 => ⟨(by show 1 ≤ sizeLine; decide), fun u2 hu2 => ?_⟩⟩
    have s0 : Same H (upd (upd H u1 (.tup [])) u2 (.tup [V.str ("top" : Str)])) := (Same.new hu1).trans (Same.new hu2)
    have n12 : u1 ≠ u2 := fun q => by rw [← q, upd_same] at hu2; cases hu2
    refine ⟨rw, u1, u2, [], [("top" : Str)], as, rs, rfl, hrw.same s0, hrows.same s0, sqT (by rw [upd_ne n12]; exact upd_same), sqT upd_same, hl, Nat.zero_le _, (by decide), fun i r h => (hv i r h).b, fun H1 s1 => ?_⟩
    have s01 := s0.trans s1
    have hq1 := hrw.same s01
    refine ⟨rw, _, rfl, hq1, fun J W => fun D hD => ?_⟩
    refine lc_it W (fun i H' => ∃ qs : List Addr, Same H1 H' ∧ RowsAt H' qs (rs.take i) ∧ H' D = some (.lst (qs.map V.ref))) ⟨[], Same.new hD, RowsAt.nil, upd_same⟩ (fun i H' _ ⟨_, sm, _, _⟩ => ?_) ?_ ?_
    · rcases hq1 with z | z <;> rw [z] <;> exact sm _ _ z
    · rintro i x H2 H2' hi ⟨qs, sm, rq, hD2⟩ ⟨rfl, hx⟩
      rw [List.length_map] at hi
      rw [List.getElem?_map] at hx
      obtain ⟨ra, hra, rfl⟩ := Option.map_eq_some_iff.mp hx
      obtain ⟨r, hr'⟩ : ∃ r, rs[i]? = some r := ⟨rs[i]'(by rw [← hrows.len]; exact hi), List.getElem?_eq_getElem _⟩
      have rr : Seq H2' ra (rowVs r) := Seq.same (hrows.at_ i ra r hra hr') (s01.trans sm)
      have sz : (qs.map V.ref).length < sizeLine := small1000 (by rw [List.length_map, rq.len, List.length_take]; omega)
      have fin : ∀ (l : Addr) (H3 : Hp), H3 l = some (.tup (rowVs r)) → Same H2' H3 → ∃ qs' : List Addr, Same H1 (upd H3 D (.lst (qs.map V.ref ++ [V.ref l]))) ∧ RowsAt (upd H3 D (.lst (qs.map V.ref ++ [V.ref l]))) qs' (rs.take (i + 1)) ∧ (upd H3 D (.lst (qs.map V.ref ++ [V.ref l]))) D = some (.lst (qs'.map V.ref)) := by
        intro l H3 hl3 s3
        have kt : ∀ {b : Addr} {xs : List V}, H3 b = some (.tup xs) → (upd H3 D (.lst (qs.map V.ref ++ [V.ref l]))) b = some (.tup xs) := fun {b xs} h => by
          rw [upd_ne (fun q => by rw [q, s3 _ _ hD2] at h; cases h)]
          exact h
        refine ⟨qs ++ [l], fun b o e => ?_, ?_, ?_⟩
        · rw [upd_ne (fun q => by rw [q, hD] at e; cases e)]
          exact s3 _ _ (sm _ _ e)
        · rw [take_more hr']
          exact RowsAt.snoc ⟨rq.len, fun j b q hb hq' => kt (s3 _ _ (rq.at_ j b q hb hq'))⟩ (kt hl3)
        · rw [upd_same, List.map_append]; rfl
      refine ⟨rfl, tYes_if ⟨_, rfl, ra, rowVs r, rfl, ?_⟩⟩
      rcases rr with z | z
      · exact .inr ⟨sqT z, qs.map V.ref, hD2, sz, fin ra _ z (Same.refl _)⟩
      · exact .inl ⟨SqL.of z, fun l hl' => ⟨qs.map V.ref, (Same.new hl') _ _ hD2, sz, fin l _ upd_same (Same.new hl')⟩⟩
    · rintro H2 ⟨qs, sm, rq, hD2⟩
      rw [List.length_map, hrows.len, List.take_length] at rq
      refine ⟨D, _, rfl, .inl ⟨SqL.of hD2, fun q hq' => ?_⟩⟩
      have fresh_t : ∀ {b : Addr} {o : HO}, H t = some o → H2 t = some o := fun {b o} e => sm _ _ (s01 _ _ e)
      have ht2 : H2 t = some (.ins C dx []) := sm _ _ (s01 _ _ ht)
      have tq : t ≠ q := ne_of_none ht2 hq'
      refine ⟨_, rfl, t, C, dx, _, rfl, Eq.trans (upd_ne tq) ht2, T.cl, T.nq, (by show 0 < 1000; decide), ?_⟩
      obtain ⟨aH, aE⟩ : ∃ Hx, Hx = upd (upd H2 q (.tup (qs.map V.ref))) t (.ins C dx (putF "quads" (.ref q) [])) := ⟨_, rfl⟩
      have at_ : aH t = some (.ins C dx (putF "quads" (.ref q) [])) := by rw [aE]; exact upd_same
      have aq : aH q = some (.tup (qs.map V.ref)) := by rw [aE, upd_ne tq.symm]; exact upd_same
      have keepA : ∀ b o, b ≠ t → H2 b = some o → aH b = some o := fun b o nb e => by rw [aE, upd_ne nb, upd_ne (ne_of_none e hq')]; exact e
      have nt : ∀ {b : Addr} {xs : List V}, H2 b = some (.tup xs) → b ≠ t := fun {b xs} e y => by rw [y, ht2] at e; cases e
      have ar : RowsAt aH qs rs := ⟨rq.len, fun j b r hb hr => keepA _ _ (nt (rq.at_ j b r hb hr)) (rq.at_ j b r hb hr)⟩
      have asb : SB t H aH := fun b o nb e => keepA b o nb (sm b o (s01 b o e))
      rw [← aE]
      clear aE keepA

      refine ⟨_, rfl, t, C, dx, _, _, rfl, at_, T.cl, T.nq, (by rw [lookup_putF, if_pos rfl]), q, rfl, ⟨_, sqT aq⟩, fun DF hDF => ?_⟩
      refine dc_tup (K := K) (a := q) (xs := qs.map V.ref) (fun i H' => Same aH H' ∧ H' DF = some (.dK (kvF (fun r => V.str r.fo) (rs.take i)))) ⟨Same.new hDF, upd_same⟩ (fun i H' _ m => sqT (m.1 _ _ aq)) ?_ ?_
      · rintro i x H' hx ⟨sm, hDi⟩
        rw [List.getElem?_map] at hx
        obtain ⟨qa, hqa, rfl⟩ := Option.map_eq_some_iff.mp hx
        obtain ⟨r, hr'⟩ : ∃ r, rs[i]? = some r := ⟨rs[i]'(by rw [← rq.len]; exact (List.getElem?_eq_some_iff.mp hqa).1), List.getElem?_eq_getElem _⟩
        have e := sm _ _ (ar.at_ i qa r hqa hr')
        refine ⟨qa, _, rfl, sqT e, rfl, _, _, rfl, _, _, rfl, _, _, rfl, _, _, rfl, rfl, rfl, tYes_if ⟨_, rfl, _, rfl, _, .inr r.nm, rfl, hDi, small1000 (by unfold kvF; rw [List.length_map, List.length_take]; omega), fun b o e => ?_, ?_⟩⟩
        · rw [upd_ne (fun y => by rw [y, hDF] at e; cases e)]
          exact sm b o e
        · rw [upd_same]
          exact congrArg (fun l => some (HO.dK l)) (kvF_more (g := (fun r => V.str r.fo)) hr' (hv i r hr').new)
      rintro H5 ⟨sm, hDD⟩
      rw [List.length_map, rq.len, List.take_length] at hDD
      refine ⟨_, rfl, t, C, dx, _, rfl, sm _ _ at_, T.cl, T.nf, ?_, ?_⟩
      · exact Nat.lt_of_le_of_lt (putF_len _ _ _) (by decide)
      obtain ⟨cH, cE⟩ : ∃ Hx, Hx = upd H5 t (.ins C dx (putF "folders" (.ref DF) (putF "quads" (.ref q) []))) := ⟨_, rfl⟩
      have ct : cH t = some (.ins C dx (putF "folders" (.ref DF) (putF "quads" (.ref q) []))) := by rw [cE]; exact upd_same
      have keepX : ∀ b o, b ≠ t → aH b = some o → cH b = some o := fun b o nb e => by rw [cE, upd_ne nb]; exact sm b o e
      have cq : cH q = some (.tup (qs.map V.ref)) := keepX _ _ tq.symm aq
      have cr : RowsAt cH qs rs := ⟨rq.len, fun j b r hb hr => keepX _ _ (nt (rq.at_ j b r hb hr)) (ar.at_ j b r hb hr)⟩
      have csb : SB t H cH := fun b o nb e => keepX b o nb (asb b o nb e)
      have nDF : DF ≠ t := fun y => by rw [y, at_] at hDF; cases hDF
      have cF : cH DF = some (.dK (kvF (fun r => V.str r.fo) rs)) := by rw [cE, upd_ne nDF]; exact hDD
      rw [← cE]
      clear cE keepX sm hDD H5

      refine ⟨_, rfl, t, C, dx, _, _, rfl, ct, T.cl, T.nq, (by rw [lookup_putF, if_neg qf_, lookup_putF, if_pos rfl]), q, rfl, ⟨_, sqT cq⟩, fun DK hDK => ?_⟩
      refine dc_tup (K := K) (a := q) (xs := qs.map V.ref) (fun i H' => Same cH H' ∧ H' DK = some (.dK (kvF (fun r => V.str r.ki) (rs.take i)))) ⟨Same.new hDK, upd_same⟩ (fun i H' _ m => sqT (m.1 _ _ cq)) ?_ ?_
      · rintro i x H' hx ⟨sm, hDi⟩
        rw [List.getElem?_map] at hx
        obtain ⟨qa, hqa, rfl⟩ := Option.map_eq_some_iff.mp hx
        obtain ⟨r, hr'⟩ : ∃ r, rs[i]? = some r := ⟨rs[i]'(by rw [← rq.len]; exact (List.getElem?_eq_some_iff.mp hqa).1), List.getElem?_eq_getElem _⟩
        have e := sm _ _ (cr.at_ i qa r hqa hr')
        refine ⟨qa, _, rfl, sqT e, rfl, _, _, rfl, _, _, rfl, _, _, rfl, _, _, rfl, rfl, rfl, tYes_if ⟨_, rfl, _, rfl, _, .inr r.nm, rfl, hDi, small1000 (by unfold kvF; rw [List.length_map, List.length_take]; omega), fun b o e => ?_, ?_⟩⟩
        · rw [upd_ne (fun y => by rw [y, hDK] at e; cases e)]
          exact sm b o e
        · rw [upd_same]
          exact congrArg (fun l => some (HO.dK l)) (kvF_more (g := (fun r => V.str r.ki)) hr' (hv i r hr').new)
      rintro H5 ⟨sm, hDD⟩
      rw [List.length_map, rq.len, List.take_length] at hDD
      refine ⟨_, rfl, t, C, dx, _, rfl, sm _ _ ct, T.cl, T.nk, ?_, ?_⟩
      · exact Nat.lt_of_le_of_lt (Nat.le_trans (putF_len _ _ _) (Nat.succ_le_succ (putF_len _ _ _))) (by decide)
      obtain ⟨dH, dE⟩ : ∃ Hx, Hx = upd H5 t (.ins C dx (putF "kinds" (.ref DK) (putF "folders" (.ref DF) (putF "quads" (.ref q) [])))) := ⟨_, rfl⟩
      have dt : dH t = some (.ins C dx (putF "kinds" (.ref DK) (putF "folders" (.ref DF) (putF "quads" (.ref q) [])))) := by rw [dE]; exact upd_same
      have keepX : ∀ b o, b ≠ t → cH b = some o → dH b = some o := fun b o nb e => by rw [dE, upd_ne nb]; exact sm b o e
      have dq : dH q = some (.tup (qs.map V.ref)) := keepX _ _ tq.symm cq
      have dr : RowsAt dH qs rs := ⟨rq.len, fun j b r hb hr => keepX _ _ (nt (rq.at_ j b r hb hr)) (cr.at_ j b r hb hr)⟩
      have dsb : SB t H dH := fun b o nb e => keepX b o nb (csb b o nb e)
      have nDK : DK ≠ t := fun y => by rw [y, ct] at hDK; cases hDK
      have dK : dH DK = some (.dK (kvF (fun r => V.str r.ki) rs)) := by rw [dE, upd_ne nDK]; exact hDD
      have dF : dH DF = some (.dK (kvF (fun r => V.str r.fo) rs)) := keepX _ _ nDF cF
      rw [← dE]
      clear dE keepX sm hDD H5

      refine ⟨_, rfl, t, C, dx, _, _, rfl, dt, T.cl, T.nq, (by rw [lookup_putF, if_neg qk_, lookup_putF, if_neg qf_, lookup_putF, if_pos rfl]), q, rfl, ⟨_, sqT dq⟩, fun DP hDP => ?_⟩
      refine dc_tup (K := K) (a := q) (xs := qs.map V.ref) (fun i H' => Same dH H' ∧ H' DP = some (.dK (kvF (fun r => prV r.pr) (rs.take i)))) ⟨Same.new hDP, upd_same⟩ (fun i H' _ m => sqT (m.1 _ _ dq)) ?_ ?_
      · rintro i x H' hx ⟨sm, hDi⟩
        rw [List.getElem?_map] at hx
        obtain ⟨qa, hqa, rfl⟩ := Option.map_eq_some_iff.mp hx
        obtain ⟨r, hr'⟩ : ∃ r, rs[i]? = some r := ⟨rs[i]'(by rw [← rq.len]; exact (List.getElem?_eq_some_iff.mp hqa).1), List.getElem?_eq_getElem _⟩
        have e := sm _ _ (dr.at_ i qa r hqa hr')
        refine ⟨qa, _, rfl, sqT e, rfl, _, _, rfl, _, _, rfl, _, _, rfl, _, _, rfl, rfl, rfl, tYes_if ⟨_, rfl, _, rfl, _, .inr r.nm, rfl, hDi, small1000 (by unfold kvF; rw [List.length_map, List.length_take]; omega), fun b o e => ?_, ?_⟩⟩
        · rw [upd_ne (fun y => by rw [y, hDP] at e; cases e)]
          exact sm b o e
        · rw [upd_same]
          exact congrArg (fun l => some (HO.dK l)) (kvF_more (g := (fun r => prV r.pr)) hr' (hv i r hr').new)
      rintro H5 ⟨sm, hDD⟩
      rw [List.length_map, rq.len, List.take_length] at hDD
      refine ⟨_, rfl, t, C, dx, _, rfl, sm _ _ dt, T.cl, T.np, ?_, ?_⟩
      · exact Nat.lt_of_le_of_lt (Nat.le_trans (putF_len _ _ _) (Nat.succ_le_succ (Nat.le_trans (putF_len _ _ _) (Nat.succ_le_succ (putF_len _ _ _))))) (by decide)
      obtain ⟨eH, eE⟩ : ∃ Hx, Hx = upd H5 t (.ins C dx (putF "prices" (.ref DP) (putF "kinds" (.ref DK) (putF "folders" (.ref DF) (putF "quads" (.ref q) []))))) := ⟨_, rfl⟩
      have et : eH t = some (.ins C dx (putF "prices" (.ref DP) (putF "kinds" (.ref DK) (putF "folders" (.ref DF) (putF "quads" (.ref q) []))))) := by rw [eE]; exact upd_same
      have keepX : ∀ b o, b ≠ t → dH b = some o → eH b = some o := fun b o nb e => by rw [eE, upd_ne nb]; exact sm b o e
      have eq : eH q = some (.tup (qs.map V.ref)) := keepX _ _ tq.symm dq
      have er : RowsAt eH qs rs := ⟨rq.len, fun j b r hb hr => keepX _ _ (nt (rq.at_ j b r hb hr)) (dr.at_ j b r hb hr)⟩
      have esb : SB t H eH := fun b o nb e => keepX b o nb (dsb b o nb e)
      have nDP : DP ≠ t := fun y => by rw [y, dt] at hDP; cases hDP
      have eP : eH DP = some (.dK (kvF (fun r => prV r.pr) rs)) := by rw [eE, upd_ne nDP]; exact hDD
      have eF : eH DF = some (.dK (kvF (fun r => V.str r.fo) rs)) := keepX _ _ nDF dF
      have eK : eH DK = some (.dK (kvF (fun r => V.str r.ki) rs)) := keepX _ _ nDK dK
      rw [← eE]
      clear eE keepX sm hDD H5
      exact hq eH esb ⟨⟨dx, q, DF, DK, DP, qs, et, eq, er, eF, eK, eP⟩, hv, hl⟩
end
end Ts

set_option maxRecDepth 100000
set_option maxHeartbeats 4000000
namespace Ts
open PySem L2
/-! ### rows as data -/
def prD : Option Int → PyData
  | none => .none
  | some i => .int i
def rowD (r : Row) : PyData := .tuple [.str r.nm, .str r.fo, .str r.ki, prD r.pr]
theorem prD_ok {K : PySem.W.Frag} {H : Hp} (o : Option Int) : Dp K H (prV o) (prD o) := by
  cases o with
  | none => exact .non
  | some i => exact .int i
theorem row_dp {K : PySem.W.Frag} {H : Hp} {a : Addr} {r : Row} (h : H a = some (.tup (rowVs r))) : Dp K H (.ref a) (rowD r) :=
  .tup (sqT h) (.cons (.str _) (.cons (.str _) (.cons (.str _) (.cons (prD_ok _) .nil))))
theorem rows_dp {K : PySem.W.Frag} {H : Hp} : ∀ {as : List Addr} {rs : List Row}, RowsAt H as rs → DpAll K H (as.map V.ref) (rs.map rowD)
  | [], [], _ => .nil
  | [], _ :: _, h => by have := h.len; simp at this
  | _ :: _, [], h => by have := h.len; simp at this
  | a :: as, r :: rs, h => .cons (row_dp (h.at_ 0 a r rfl rfl)) (rows_dp ⟨by simpa using h.len, fun i b q hb hq => h.at_ (i + 1) b q (by simpa using hb) (by simpa using hq)⟩)
theorem str_beq (x y : Str) : (x == y) = decide (x = y) := by
  by_cases h : x = y
  · subst h; simp
  · rw [decide_eq_false h]; exact beq_eq_false_iff_ne.mpr h
theorem prD_eqv (a b : Option Int) : PyData.eqv (prD a) (prD b) = decide (a = b) := by
  cases a <;> cases b <;> simp [prD, PyData.eqv]
  rename_i i j
  by_cases h : i = j <;> simp [h]
theorem row_eqv (a b : Row) : PyData.eqv (rowD a) (rowD b) = decide (a = b) := by
  obtain ⟨n1, f1, k1, p1⟩ := a
  obtain ⟨n2, f2, k2, p2⟩ := b
  unfold rowD
  simp only [PyData.eqv, PyData.eqvAll, prD_eqv, str_beq, Bool.and_true]
  by_cases h1 : n1 = n2 <;> by_cases h2 : f1 = f2 <;> by_cases h3 : k1 = k2 <;> by_cases h4 : p1 = p2 <;> simp [h1, h2, h3, h4]
theorem rows_eqv : ∀ (a b : List Row), PyData.eqvAll (a.map rowD) (b.map rowD) = decide (a = b)
  | [], [] => by simp [PyData.eqvAll]
  | [], _ :: _ => by simp [PyData.eqvAll]
  | _ :: _, [] => by simp [PyData.eqvAll]
  | x :: a, y :: b => by
    simp only [List.map_cons, PyData.eqvAll, row_eqv, rows_eqv a b]
    by_cases h1 : x = y <;> by_cases h2 : a = b <;> simp [h1, h2]
theorem low_ok {z : Str} (h : ∀ c ∈ z.cps.toList, c ≤ 122) : PyData.strOk z = true := by
  unfold PyData.strOk
  rw [← Array.all_toList, List.all_eq_true]
  intro c hc
  have := h c hc
  exact decide_eq_true (by omega)
theorem top_ok : PyData.strOk ("top" : Str) = true := by decide +kernel
theorem kinds_ok : ∀ k ∈ kinds3, PyData.strOk k = true := by decide +kernel
structure RowOk (r : Row) : Prop where
  n : PyData.strOk r.nm = true
  f : PyData.strOk r.fo = true
  k : PyData.strOk r.ki = true
theorem rowD_lay {r : Row} (h : RowOk r) : (rowD r).canLay0 = true := by
  obtain ⟨h1, h2, h3⟩ := h
  obtain ⟨n, f, k, p⟩ := r
  cases p <;> simp_all [rowD, prD, PyData.canLay0, PyData.canLayAll0]
theorem rowD_depth (r : Row) : (rowD r).depth = 1 := by
  obtain ⟨n, f, k, p⟩ := r
  cases p <;> simp [rowD, prD, PyData.depth, PyData.depthAll]
theorem rows_lay : ∀ (rs : List Row), (∀ r ∈ rs, RowOk r) → PyData.canLayAll0 (rs.map rowD) = true
  | [], _ => by simp [PyData.canLayAll0]
  | r :: rs, h => by
    simp only [List.map_cons, PyData.canLayAll0, rowD_lay (h r (List.mem_cons_self ..)), rows_lay rs (fun q hq => h q (List.mem_cons_of_mem _ hq)), Bool.and_self]
theorem rows_depth : ∀ (rs : List Row), PyData.depthAll (rs.map rowD) ≤ 1
  | [] => by simp [PyData.depthAll]
  | r :: rs => by
    have ih := rows_depth rs
    simp only [List.map_cons, PyData.depthAll, rowD_depth]
    omega
theorem shaped_tup {rs : List Row} (h : ∀ r ∈ rs, RowOk r) : SeqAt.shaped (.tuple (rs.map rowD)) = true := by
  have q := rows_depth rs
  unfold SeqAt.shaped
  rw [Bool.and_eq_true]
  refine ⟨by simp only [PyData.canLay0]; exact rows_lay rs h, decide_eq_true ?_⟩
  simp only [PyData.depth]
  omega
theorem shaped_lst {rs : List Row} (h : ∀ r ∈ rs, RowOk r) : SeqAt.shaped (.list (rs.map rowD)) = true := by
  have q := rows_depth rs
  unfold SeqAt.shaped
  rw [Bool.and_eq_true]
  refine ⟨by simp only [PyData.canLay0]; exact rows_lay rs h, decide_eq_true ?_⟩
  simp only [PyData.depth]
  omega
theorem shaped_row {r : Row} (h : RowOk r) : SeqAt.shaped (rowD r) = true := by
  simp only [SeqAt.shaped, rowD_lay h, rowD_depth, Bool.true_and]
  decide
theorem low_sok {z : Str} (h : Low z) : PyData.strOk z = true := low_ok fun c hc => (h c hc).2
theorem Valid.ok {rs : List Row} (h : Valid rs) : ∀ r ∈ rs, RowOk r := by
  intro r hr
  obtain ⟨i, hi, rfl⟩ := List.mem_iff_getElem.mp hr
  have f := h i rs[i] (List.getElem?_eq_getElem hi)
  refine ⟨low_sok f.shape.2, ?_, kinds_ok _ f.kind⟩
  rcases f.home with e | ⟨q, hq, e, _⟩
  · rw [e]; exact top_ok
  · obtain ⟨j, hj, rfl⟩ := List.mem_iff_getElem.mp (List.mem_of_mem_take hq)
    rw [← e]
    exact low_sok (h j rs[j] (List.getElem?_eq_getElem hj)).shape.2
/-! ### promises of the methods -/
def names (rs : List Row) : List Str := rs.map (·.nm)
def rowOf (rs : List Row) (z : Str) : Option Row := rs.find? fun r => decide (r.nm = z)
theorem rowOf_some {rs : List Row} {z : Str} (h : z ∈ names rs) : ∃ r, rowOf rs z = some r ∧ r ∈ rs ∧ r.nm = z := by
  unfold rowOf
  obtain ⟨q, hq, e⟩ := List.mem_map.mp h
  cases e1 : rs.find? fun r => decide (r.nm = z) with
  | none =>
    rw [List.find?_eq_none] at e1
    exact absurd (decide_eq_true e) (e1 q hq)
  | some r => exact ⟨r, rfl, List.mem_of_find?_eq_some e1, of_decide_eq_true (List.find?_some (p := fun (r : Row) => decide (r.nm = z)) e1)⟩
def spLen (C : Addr) : Sp := fun vs H Q _ => ∃ (t : Addr) (rs : List Row), vs = [.ref t] ∧ TreeAt C H t rs ∧ Q (.int rs.length) H
def Other (K : PySem.W.Frag) (H : Hp) (x : V) (c : Value) : Prop := ∃ ty, TyX K H x ty ∧ PySem.W.kitOne K ty c = some false
def spContains (K : PySem.W.Frag) (C : Addr) : Sp := fun vs H Q _ => ∃ (t : Addr) (x : V) (rs : List Row), vs = [.ref t, x] ∧ TreeAt C H t rs ∧
  ((∃ z, x = .str z ∧ Q (.bl (decide (z ∈ names rs))) H) ∨ (Other K H x (.type "str") ∧ Q (.bl false) H))
def spEqT (K : PySem.W.Frag) (C : Addr) : Sp := fun vs H Q _ => ∃ (t : Addr) (x : V) (rs : List Row), vs = [.ref t, x] ∧ TreeAt C H t rs ∧
  ((∃ (u : Addr) (qs : List Row), x = .ref u ∧ TreeAt C H u qs ∧ Q (.bl (decide (rs = qs))) H) ∨ (Other K H x (.ref C) ∧ Q (.bl false) H))
def spRowsM (C : Addr) : Sp := fun vs H Q _ => ∃ (t : Addr) (rs : List Row), vs = [.ref t] ∧ TreeAt C H t rs ∧ ∀ p (qs : List Addr), H p = none → RowsAt H qs rs → Q (.ref p) (upd H p (.lst (qs.map V.ref)))
def spBox (C : Addr) : Sp := fun vs H Q _ => ∃ (t : Addr) (z : Str) (rs : List Row), vs = [.ref t, .str z] ∧ TreeAt C H t rs ∧ z ∈ names rs ∧ Q .non H
def spIsPlace (C : Addr) : Sp := fun vs H Q _ => ∃ (t : Addr) (z : Str) (rs : List Row), vs = [.ref t, .str z] ∧ TreeAt C H t rs ∧ Q (.bl (decide (z = ("top" : Str) ∨ z ∈ names rs))) H
def spPlace (C : Addr) : Sp := fun vs H Q _ => ∃ (t : Addr) (z : Str) (rs : List Row), vs = [.ref t, .str z] ∧ TreeAt C H t rs ∧ (z = ("top" : Str) ∨ z ∈ names rs) ∧ Q .non H
def spGet (C : Addr) (g : Row → V) : Sp := fun vs H Q _ => ∃ (t : Addr) (z : Str) (rs : List Row) (r : Row), vs = [.ref t, .str z] ∧ TreeAt C H t rs ∧ rowOf rs z = some r ∧ Q (g r) H
section
variable {P : Program} {w : World} {K : PySem.W.Frag} {mg : Str → Option Value} {base : Heap} {C : Addr}
theorem sc_Tree_len : FnScope ["self"] ["self"] (defScope s_Tree_len) := ⟨rfl, rfl, rfl, by decide +kernel, rfl, by decide +kernel, by decide +kernel⟩
theorem ok_Tree_len {f : Addr} {fd : FuncData} (F : Fun K "__len__" "Tree.__len__" s_Tree_len f fd) (B : TxB mg) (T : TxT K mg C) : FnOk P w K mg base CX0 2 f fd ["self"] (spLen C) := by
  refine F.ok sc_Tree_len (fun vs H Q E h => ?_) (fun cdv A outer s H vs Q E hr h => ?_)
  · obtain ⟨t, rs, rfl, _⟩ := h
    rfl
  · obtain ⟨t, rs, rfl, ht, hq⟩ := h
    obtain ⟨dx, q, f, k, p, qs, h1, h2, h3, h4, h5, h6⟩ := ht.ex
    refine ⟨_, pss_one (ps_ret (pe_callB call_len_seq (by rfl) B.len PySem.boot_len (pa_cons (pe_fld (pv 0) rfl) pa_nil))), ?_⟩
    refine ⟨_, rfl, t, C, dx, _, _, rfl, h1, T.cl, T.nq, tf_q _ _ _ _, q, _, rfl, .inr (sqT h2), ?_⟩
    rw [List.length_map, h3.len]
    exact hq
theorem sc_Tree_contains : FnScope ["self", "x"] ["self", "x"] (defScope s_Tree_contains) := ⟨rfl, rfl, rfl, by decide +kernel, rfl, by decide +kernel, by decide +kernel⟩
theorem ok_Tree_contains {f : Addr} {fd : FuncData} (F : Fun K "__contains__" "Tree.__contains__" s_Tree_contains f fd) (B : TxB mg) (T : TxT K mg C) : FnOk P w K mg base CX0 2 f fd ["self", "x"] (spContains K C) := by
  refine F.ok sc_Tree_contains (fun vs H Q E h => ?_) (fun cdv A outer s H vs Q E hr h => ?_)
  · obtain ⟨t, x, rs, rfl, _⟩ := h
    rfl
  · obtain ⟨t, x, rs, rfl, ht, h⟩ := h
    have hu := hu_of hr
    obtain ⟨dx, q, f, k, p, qs, h1, h2, h3, h4, h5, h6⟩ := ht.ex
    refine ⟨_, pss_one (ps_ret (pe_and (pe_callB call_isi (by rfl) B.isinstance (by decide +kernel) (pa_cons (pv 1) (pa_cons (pe_bltn (by rfl) B.str (by decide +kernel) (v := .ty "str") rfl) pa_nil))) (pe_one (pe_cmp (pc_din hu (pv 1) (pe_fld (pv 0) rfl)) rfl)))), ?_⟩
    rcases h with ⟨z, rfl, hq⟩ | ⟨⟨ty, hty, hk⟩, hq⟩
    · refine ⟨_, rfl, _, _, _, _, true, rfl, .ty "str", .base (.str z), kit_ty (by decide +kernel), _, rfl, iteT ?_⟩
      refine ⟨_, rfl, _, rfl, t, C, dx, _, _, rfl, h1, T.cl, T.nk, tf_k _ _ _ _, k, _, rfl, DGet.k (k := Sum.inr z) h5, ?_⟩
      rw [valV_kvF]
      have e : ((rs.find? fun r => decide (r.nm = z)).map fun r => V.str r.ki).isSome = decide (z ∈ names rs) := by
        by_cases hz : z ∈ names rs
        · obtain ⟨r, e1, _⟩ := rowOf_some hz
          unfold rowOf at e1
          rw [e1, decide_eq_true hz]; rfl
        · rw [find_none hz, decide_eq_false hz]; rfl
      rw [e]
      exact hq
    · exact ⟨_, rfl, _, _, _, _, false, rfl, .ty "str", hty, hk, _, rfl, iteF hq⟩
theorem sc_Tree_eq : FnScope ["self", "other"] ["self", "other"] (defScope s_Tree_eq) := ⟨rfl, rfl, rfl, by decide +kernel, rfl, by decide +kernel, by decide +kernel⟩
theorem ok_Tree_eq {f : Addr} {fd : FuncData} (F : Fun K "__eq__" "Tree.__eq__" s_Tree_eq f fd) (B : TxB mg) (T : TxT K mg C) (I : C8.InsC K C) : FnOk P w K mg base CX0 2 f fd ["self", "other"] (spEqT K C) := by
  refine F.ok sc_Tree_eq (fun vs H Q E h => ?_) (fun cdv A outer s H vs Q E hr h => ?_)
  · obtain ⟨t, x, rs, rfl, _⟩ := h
    rfl
  · obtain ⟨t, x, rs, rfl, ht, h⟩ := h
    obtain ⟨dx, q, f, k, p, qs, h1, h2, h3, h4, h5, h6⟩ := ht.ex
    refine ⟨_, pss_one (ps_ret (pe_and (pe_callB call_isi (by rfl) B.isinstance (by decide +kernel) (pa_cons (pv 1) (pa_cons (pe_glob (by rfl) T.g (v := .ref C) rfl) pa_nil))) (pe_one (pe_cmpR (op_eqD (by have := hr.units; exact this)) (pe_fld (pv 0) rfl) (pe_fld (pv 1) rfl) (nomark _))))), ?_⟩
    rcases h with ⟨u, ys, rfl, hu, hq⟩ | ⟨⟨ty, hty, hk⟩, hq⟩
    · obtain ⟨dx', q', f', k', p', qs', g1, g2, g3, g4, g5, g6⟩ := hu.ex
      refine ⟨_, rfl, _, _, _, _, true, rfl, .own C, .base (.ins g1 I.cl I.ha I.hn I.htk I.hm), I.me, _, rfl, iteT ?_⟩
      refine ⟨_, rfl, t, C, dx, _, _, rfl, h1, T.cl, T.nq, tf_q _ _ _ _, _, rfl, u, C, dx', _, _, rfl, g1, T.cl, T.nq, tf_q _ _ _ _, _, _, .tup (sqT h2) (rows_dp h3), .tup (sqT g2) (rows_dp g3), shaped_tup ht.val.ok, shaped_tup hu.val.ok, ?_⟩
      have e : PyData.eqv (.tuple (rs.map rowD)) (.tuple (ys.map rowD)) = decide (rs = ys) := by
        simp only [PyData.eqv]
        exact rows_eqv rs ys
      rw [e]
      exact hq
    · exact ⟨_, rfl, _, _, _, _, false, rfl, .own C, hty, hk, _, rfl, iteF hq⟩
theorem sc_Tree_rows : FnScope ["self"] ["self"] (defScope s_Tree_rows) := ⟨rfl, rfl, rfl, by decide +kernel, rfl, by decide +kernel, by decide +kernel⟩
theorem ok_Tree_rows {f : Addr} {fd : FuncData} (F : Fun K "rows" "Tree.rows" s_Tree_rows f fd) (B : TxB mg) (T : TxT K mg C) : FnOk P w K mg base CX0 2 f fd ["self"] (spRowsM C) := by
  refine F.ok sc_Tree_rows (fun vs H Q E h => ?_) (fun cdv A outer s H vs Q E hr h => ?_)
  · obtain ⟨t, rs, rfl, _⟩ := h
    rfl
  · obtain ⟨t, rs, rfl, ht, hq⟩ := h
    obtain ⟨dx, q, f, k, p, qs, h1, h2, h3, h4, h5, h6⟩ := ht.ex
    refine ⟨_, pss_one (ps_ret (pe_callTy call_list_of (by rfl) B.list (by decide +kernel) (pa_cons (pe_fld (pv 0) rfl) pa_nil))), ?_⟩
    exact ⟨_, rfl, t, C, dx, _, _, rfl, h1, T.cl, T.nq, tf_q _ _ _ _, q, _, rfl, .inr (sqT h2), fun l hl => hq l qs hl h3⟩
theorem sc_check_box : FnScope ["tree", "thing"] ["tree", "thing"] (defScope s_check_box) := ⟨rfl, rfl, rfl, by decide +kernel, rfl, by decide +kernel, by decide +kernel⟩
theorem ok_check_box (D : DefAt K mg "check_box" s_check_box ["tree", "thing"]) (M : MethAt K C "__contains__" "Tree.__contains__" s_Tree_contains ["self", "x"]) (B : TxB mg) (T : TxT K mg C) : FnOk P w K mg base CX0 3 D.f D.fd ["tree", "thing"] (spBox C) := by
  have G : FnOk P w K mg base CX0 2 M.f M.fd ["self", "x"] (spContains K C) := ok_Tree_contains M.F B T
  refine D.F.ok sc_check_box (fun vs H Q E h => ?_) (fun cdv A outer s H vs Q E hr h => ?_)
  · obtain ⟨t, z, rs, rfl, _⟩ := h
    rfl
  · obtain ⟨t, z, rs, rfl, ht, hz, hq⟩ := h
    obtain ⟨dx, q, f, k, p, qs, h1, h2⟩ := ht.ex
    refine ⟨_, pss_one (ps_if (pt_cmpR (op_notinC G M.m hr M.b pass0) (pv 1) (pv 0) (by rfl)) (pss_one ps_never) pss_nil), ?_⟩
    refine ⟨_, rfl, _, rfl, t, dx, _, rfl, h1, t, _, rs, rfl, ht, .inl ⟨z, rfl, _, rfl, _, rfl, ?_⟩⟩
    rw [decide_eq_true hz]
    exact iteF hq
theorem sc_is_place : FnScope ["tree", "thing"] ["tree", "thing"] (defScope s_is_place) := ⟨rfl, rfl, rfl, by decide +kernel, rfl, by decide +kernel, by decide +kernel⟩
theorem ok_is_place (D : DefAt K mg "is_place" s_is_place ["tree", "thing"]) (M : MethAt K C "__contains__" "Tree.__contains__" s_Tree_contains ["self", "x"]) (B : TxB mg) (TC : TxC K mg) (T : TxT K mg C) : FnOk P w K mg base CX0 3 D.f D.fd ["tree", "thing"] (spIsPlace C) := by
  have G : FnOk P w K mg base CX0 2 M.f M.fd ["self", "x"] (spContains K C) := ok_Tree_contains M.F B T
  obtain ⟨t1, gT⟩ := TC.top
  refine D.F.ok sc_is_place (fun vs H Q E h => ?_) (fun cdv A outer s H vs Q E hr h => ?_)
  · obtain ⟨t, z, rs, rfl, _⟩ := h
    rfl
  · obtain ⟨t, z, rs, rfl, ht, hq⟩ := h
    obtain ⟨dx, q, f, k, p, qs, h1, h2⟩ := ht.ex
    refine ⟨_, pss_one (ps_ret (pe_or (pe_cmpR op_eq (pv 1) (pe_glob (by rfl) gT (v := .str ("top" : Str)) ⟨_, rfl⟩) (nomark _)) (pe_one (pe_cmpR (op_inC G M.m hr M.b pass0) (pv 1) (pv 0) (by rfl))))), ?_⟩
    refine ⟨_, rfl, rfl, _, rfl, ?_⟩
    have e0 : decide (V.str z = V.str ("top" : Str)) = decide (z = ("top" : Str)) := decide_eq_decide.mpr ⟨fun h => V.str.inj h, fun h => congrArg _ h⟩
    rw [e0]
    refine ite2 (fun hc => ?_) (fun hc => ?_)
    · have hc' : z = ("top" : Str) := of_decide_eq_true hc
      rw [decide_eq_true (Or.inl hc')] at hq
      exact hq
    · have hc' : ¬ z = ("top" : Str) := fun e => hc (decide_eq_true e)
      refine ⟨_, rfl, _, rfl, t, dx, _, rfl, h1, t, _, rs, rfl, ht, .inl ⟨z, rfl, _, rfl, ?_⟩⟩
      have e1 : decide (z = ("top" : Str) ∨ z ∈ names rs) = decide (z ∈ names rs) := decide_eq_decide.mpr ⟨fun h => h.resolve_left hc', Or.inr⟩
      rw [e1] at hq
      exact hq
theorem sc_check_place : FnScope ["tree", "thing"] ["tree", "thing"] (defScope s_check_place) := ⟨rfl, rfl, rfl, by decide +kernel, rfl, by decide +kernel, by decide +kernel⟩
theorem ok_check_place (D : DefAt K mg "check_place" s_check_place ["tree", "thing"]) (Db : DefAt K mg "is_place" s_is_place ["tree", "thing"]) (Gb : FnOk P w K mg base CX0 3 Db.f Db.fd ["tree", "thing"] (spIsPlace C)) : FnOk P w K mg base CX0 4 D.f D.fd ["tree", "thing"] (spPlace C) := by
  refine D.F.ok sc_check_place (fun vs H Q E h => ?_) (fun cdv A outer s H vs Q E hr h => ?_)
  · obtain ⟨t, z, rs, rfl, _⟩ := h
    rfl
  · obtain ⟨t, z, rs, rfl, ht, hz, hq⟩ := h
    refine ⟨_, pss_one (ps_if (pt_not (pt_val (pe_call Gb hr rfl Db.g Db.F.kp Db.b .nil pass0 (pa_cons (pv 0) (pa_cons (pv 1) pa_nil))))) (pss_one ps_never) pss_nil), ?_⟩
    refine ⟨_, rfl, _, rfl, t, z, rs, rfl, ht, _, rfl, ?_⟩
    rw [decide_eq_true hz]
    exact iteF hq
theorem sc_Tree_folder : FnScope ["self", "box"] ["self", "box"] (defScope s_Tree_folder) := ⟨rfl, rfl, rfl, by decide +kernel, rfl, by decide +kernel, by decide +kernel⟩
theorem ok_Tree_folder {f : Addr} {fd : FuncData} (F : Fun K "folder" "Tree.folder" s_Tree_folder f fd) (Db : DefAt K mg "check_box" s_check_box ["tree", "thing"]) (Gb : FnOk P w K mg base CX0 3 Db.f Db.fd ["tree", "thing"] (spBox C)) (T : TxT K mg C) : FnOk P w K mg base CX0 4 f fd ["self", "box"] (spGet C (fun r => V.str r.fo)) := by
  refine F.ok sc_Tree_folder (fun vs H Q E h => ?_) (fun cdv A outer s H vs Q E hr h => ?_)
  · obtain ⟨t, z, rs, r, rfl, _⟩ := h
    rfl
  · obtain ⟨t, z, rs, r, rfl, ht, hz, hq⟩ := h
    have hu := hu_of hr
    obtain ⟨dx, q, f, k, p, qs, h1, h2, h3, h4, h5, h6⟩ := ht.ex
    refine ⟨_, pss_cons (ps_expr (pe_call Gb hr rfl Db.g Db.F.kp Db.b .nil pass0 (pa_cons (pv 0) (pa_cons (pv 1) pa_nil)))) (pss_one (ps_ret (pe_dget hu (pe_fld (pv 0) rfl) (pv 1) (fun _ _ => rfl)))), ?_⟩
    have hin : z ∈ names rs := List.mem_map.mpr ⟨r, List.mem_of_find?_eq_some hz, of_decide_eq_true (List.find?_some (p := fun (r : Row) => decide (r.nm = z)) (show rs.find? (fun (r : Row) => decide (r.nm = z)) = some r from hz))⟩
    refine ⟨_, rfl, _, rfl, t, z, rs, rfl, ht, hin, _, rfl, t, C, dx, _, _, rfl, h1, T.cl, T.nf, tf_f _ _ _ _, _, rfl, f, _, rfl, ?_, hq⟩
    have e := DGet.k (k := Sum.inr z) h4
    rw [valV_kvF, show (rs.find? fun r => decide (r.nm = z)) = some r from hz] at e
    exact e
theorem sc_Tree_kind : FnScope ["self", "box"] ["self", "box"] (defScope s_Tree_kind) := ⟨rfl, rfl, rfl, by decide +kernel, rfl, by decide +kernel, by decide +kernel⟩
theorem ok_Tree_kind {f : Addr} {fd : FuncData} (F : Fun K "kind" "Tree.kind" s_Tree_kind f fd) (Db : DefAt K mg "check_box" s_check_box ["tree", "thing"]) (Gb : FnOk P w K mg base CX0 3 Db.f Db.fd ["tree", "thing"] (spBox C)) (T : TxT K mg C) : FnOk P w K mg base CX0 4 f fd ["self", "box"] (spGet C (fun r => V.str r.ki)) := by
  refine F.ok sc_Tree_kind (fun vs H Q E h => ?_) (fun cdv A outer s H vs Q E hr h => ?_)
  · obtain ⟨t, z, rs, r, rfl, _⟩ := h
    rfl
  · obtain ⟨t, z, rs, r, rfl, ht, hz, hq⟩ := h
    have hu := hu_of hr
    obtain ⟨dx, q, f, k, p, qs, h1, h2, h3, h4, h5, h6⟩ := ht.ex
    refine ⟨_, pss_cons (ps_expr (pe_call Gb hr rfl Db.g Db.F.kp Db.b .nil pass0 (pa_cons (pv 0) (pa_cons (pv 1) pa_nil)))) (pss_one (ps_ret (pe_dget hu (pe_fld (pv 0) rfl) (pv 1) (fun _ _ => rfl)))), ?_⟩
    have hin : z ∈ names rs := List.mem_map.mpr ⟨r, List.mem_of_find?_eq_some hz, of_decide_eq_true (List.find?_some (p := fun (r : Row) => decide (r.nm = z)) (show rs.find? (fun (r : Row) => decide (r.nm = z)) = some r from hz))⟩
    refine ⟨_, rfl, _, rfl, t, z, rs, rfl, ht, hin, _, rfl, t, C, dx, _, _, rfl, h1, T.cl, T.nk, tf_k _ _ _ _, _, rfl, k, _, rfl, ?_, hq⟩
    have e := DGet.k (k := Sum.inr z) h5
    rw [valV_kvF, show (rs.find? fun r => decide (r.nm = z)) = some r from hz] at e
    exact e
theorem sc_Tree_price : FnScope ["self", "box"] ["self", "box"] (defScope s_Tree_price) := ⟨rfl, rfl, rfl, by decide +kernel, rfl, by decide +kernel, by decide +kernel⟩
theorem ok_Tree_price {f : Addr} {fd : FuncData} (F : Fun K "price" "Tree.price" s_Tree_price f fd) (Db : DefAt K mg "check_box" s_check_box ["tree", "thing"]) (Gb : FnOk P w K mg base CX0 3 Db.f Db.fd ["tree", "thing"] (spBox C)) (T : TxT K mg C) : FnOk P w K mg base CX0 4 f fd ["self", "box"] (spGet C (fun r => prV r.pr)) := by
  refine F.ok sc_Tree_price (fun vs H Q E h => ?_) (fun cdv A outer s H vs Q E hr h => ?_)
  · obtain ⟨t, z, rs, r, rfl, _⟩ := h
    rfl
  · obtain ⟨t, z, rs, r, rfl, ht, hz, hq⟩ := h
    have hu := hu_of hr
    obtain ⟨dx, q, f, k, p, qs, h1, h2, h3, h4, h5, h6⟩ := ht.ex
    refine ⟨_, pss_cons (ps_expr (pe_call Gb hr rfl Db.g Db.F.kp Db.b .nil pass0 (pa_cons (pv 0) (pa_cons (pv 1) pa_nil)))) (pss_one (ps_ret (pe_dget hu (pe_fld (pv 0) rfl) (pv 1) (fun _ _ => rfl)))), ?_⟩
    have hin : z ∈ names rs := List.mem_map.mpr ⟨r, List.mem_of_find?_eq_some hz, of_decide_eq_true (List.find?_some (p := fun (r : Row) => decide (r.nm = z)) (show rs.find? (fun (r : Row) => decide (r.nm = z)) = some r from hz))⟩
    refine ⟨_, rfl, _, rfl, t, z, rs, rfl, ht, hin, _, rfl, t, C, dx, _, _, rfl, h1, T.cl, T.np, tf_p _ _ _ _, _, rfl, p, _, rfl, ?_, hq⟩
    have e := DGet.k (k := Sum.inr z) h6
    rw [valV_kvF, show (rs.find? fun r => decide (r.nm = z)) = some r from hz] at e
    exact e
end
end Ts

set_option maxRecDepth 100000
set_option maxHeartbeats 4000000
namespace Ts
open PySem L2
/-! ### ways -/
def wayR : List Row → Str → List Str
  | [], _ => []
  | r :: rest, z => if r.nm = z then wayR rest r.fo ++ [z] else wayR rest z
def wayOf (rs : List Row) (z : Str) : List Str := wayR rs.reverse z
structure FitR (rest : List Row) (r : Row) : Prop where
  top : r.nm ≠ ("top" : Str)
  new : r.nm ∉ rest.map (·.nm)
  home : r.fo = ("top" : Str) ∨ r.fo ∈ rest.map (·.nm)
def ValidR : List Row → Prop
  | [] => True
  | r :: rest => FitR rest r ∧ ValidR rest
theorem Valid.init {rs : List Row} {r : Row} (h : Valid (rs ++ [r])) : Valid rs := fun i q hq => by
  have hi : i < rs.length := (List.getElem?_eq_some_iff.mp hq).1
  have f := h i q (by rw [List.getElem?_append_left hi]; exact hq)
  rw [List.take_append_of_le_length (Nat.le_of_lt hi)] at f
  exact f
theorem Valid.last {rs : List Row} {r : Row} (h : Valid (rs ++ [r])) : Fits rs r := by
  have f := h rs.length r (by simp)
  rw [List.take_append_of_le_length (Nat.le_refl _), List.take_length] at f
  exact f
theorem validR : ∀ l : List Row, Valid l.reverse → ValidR l
  | [], _ => trivial
  | r :: l, h => by
    rw [List.reverse_cons] at h
    have f := h.last
    refine ⟨⟨f.top, by simpa using f.new, ?_⟩, validR l h.init⟩
    rcases f.home with e | ⟨q, hq, e, _⟩
    · exact .inl e
    · exact .inr (List.mem_map.mpr ⟨q, List.mem_reverse.mp hq, e⟩)
theorem wayR_mem : ∀ {l : List Row} {z x : Str}, x ∈ wayR l z → x ∈ l.map (·.nm)
  | [], _, _, h => by cases h
  | r :: l, z, x, h => by
    unfold wayR at h
    by_cases e : r.nm = z
    · rw [if_pos e] at h
      rcases List.mem_append.mp h with h | h
      · exact List.mem_cons_of_mem _ (wayR_mem h)
      · rw [List.mem_singleton.mp h, ← e]; exact List.mem_cons_self ..
    · rw [if_neg e] at h
      exact List.mem_cons_of_mem _ (wayR_mem h)
theorem wayR_out : ∀ {l : List Row} {z : Str}, z ∉ l.map (·.nm) → wayR l z = []
  | [], _, _ => rfl
  | r :: l, z, h => by
    unfold wayR
    rw [if_neg fun e => h (List.mem_map.mpr ⟨r, List.mem_cons_self .., e⟩)]
    exact wayR_out fun q => h (List.mem_cons_of_mem _ q)
theorem ValidR.home : ∀ {l : List Row} {r : Row}, ValidR l → r ∈ l → r.fo = ("top" : Str) ∨ r.fo ∈ l.map (·.nm)
  | q :: l, r, h, hr => by
    rcases List.mem_cons.mp hr with e | hr
    · subst e; exact h.1.home.imp id (List.mem_cons_of_mem _)
    · exact (h.2.home hr).imp id (List.mem_cons_of_mem _)
theorem ValidR.top : ∀ {l : List Row}, ValidR l → ("top" : Str) ∉ l.map (·.nm)
  | [], _, h => by cases h
  | r :: l, h, hm => by
    rcases List.mem_cons.mp hm with e | hm
    · exact h.1.top e.symm
    · exact h.2.top hm
theorem wayR_step : ∀ {l : List Row} {r : Row}, ValidR l → r ∈ l → wayR l r.nm = wayR l r.fo ++ [r.nm]
  | q :: l, r, h, hr => by
    rcases List.mem_cons.mp hr with e | hr'
    · subst e
      have ne : ¬ r.nm = r.fo := fun e => by
        rcases h.1.home with e2 | e2
        · exact h.1.top (e.trans e2)
        · exact h.1.new (e ▸ e2)
      show (if r.nm = r.nm then wayR l r.fo ++ [r.nm] else wayR l r.nm) = (if r.nm = r.fo then wayR l r.fo ++ [r.fo] else wayR l r.fo) ++ [r.nm]
      rw [if_pos rfl, if_neg ne]
    · have n1 : ¬ q.nm = r.nm := fun e => h.1.new (List.mem_map.mpr ⟨r, hr', e.symm⟩)
      have n2 : ¬ q.nm = r.fo := fun e => by
        rcases h.2.home hr' with e2 | e2
        · exact h.1.top (e.trans e2)
        · exact h.1.new (e ▸ e2)
      show (if q.nm = r.nm then wayR l q.fo ++ [r.nm] else wayR l r.nm) = (if q.nm = r.fo then wayR l q.fo ++ [r.fo] else wayR l r.fo) ++ [r.nm]
      rw [if_neg n1, if_neg n2]
      exact wayR_step h.2 hr'
theorem Valid.r {rs : List Row} (h : Valid rs) : ValidR rs.reverse := validR rs.reverse (by rw [List.reverse_reverse]; exact h)
theorem way_step {rs : List Row} (h : Valid rs) {r : Row} (hr : r ∈ rs) : wayOf rs r.nm = wayOf rs r.fo ++ [r.nm] := wayR_step h.r (List.mem_reverse.mpr hr)
theorem way_out {rs : List Row} {z : Str} (h : z ∉ names rs) : wayOf rs z = [] := wayR_out (by rw [List.map_reverse]; exact fun q => h (List.mem_reverse.mp q))
theorem top_not {rs : List Row} (h : Valid rs) : ("top" : Str) ∉ names rs := fun q => h.r.top (by rw [List.map_reverse]; exact List.mem_reverse.mpr q)
theorem way_top {rs : List Row} (h : Valid rs) : wayOf rs ("top" : Str) = [] := way_out (top_not h)
theorem way_mem {rs : List Row} {z x : Str} (h : x ∈ wayOf rs z) : x ∈ names rs := by
  have q := wayR_mem h
  rw [List.map_reverse] at q
  exact List.mem_reverse.mp q
theorem way_self {rs : List Row} (h : Valid rs) {z : Str} (hz : z ∈ names rs) : z ∈ wayOf rs z := by
  obtain ⟨r, hr, rfl⟩ := List.mem_map.mp hz
  rw [way_step h hr]
  simp
theorem Valid.fo {rs : List Row} (h : Valid rs) {i : Nat} {r : Row} (hr : rs[i]? = some r) : r.fo = ("top" : Str) ∨ r.fo ∈ names (rs.take i) := by
  rcases (h i r hr).home with e | ⟨q, hq, e, _⟩
  · exact .inl e
  · exact .inr (List.mem_map.mpr ⟨q, hq, e⟩)
theorem names_take {rs : List Row} {i : Nat} {z : Str} (h : z ∈ names (rs.take i)) : z ∈ names rs := by
  obtain ⟨r, hr, rfl⟩ := List.mem_map.mp h
  exact List.mem_map.mpr ⟨r, List.mem_of_mem_take hr, rfl⟩
theorem names_at {rs : List Row} {i : Nat} {z : Str} (h : z ∈ names (rs.take i)) : ∃ j r, j < i ∧ rs[j]? = some r ∧ r.nm = z := by
  obtain ⟨r, hr, rfl⟩ := List.mem_map.mp h
  obtain ⟨j, hj, e⟩ := List.mem_iff_getElem.mp hr
  rw [List.length_take] at hj
  refine ⟨j, r, by omega, ?_, rfl⟩
  rw [← e, List.getElem_take]
  exact List.getElem?_eq_getElem _
theorem way_pre {rs : List Row} (h : Valid rs) : ∀ (i : Nat) {z x : Str}, z ∈ names (rs.take i) → x ∈ wayOf rs z → x ∈ names (rs.take i) := by
  intro i
  induction i using Nat.strongRecOn with
  | _ i ih =>
    intro z x hz hx
    obtain ⟨j, r, hj, hr, rfl⟩ := names_at hz
    rw [way_step h (List.mem_of_getElem? hr)] at hx
    rcases List.mem_append.mp hx with hx | hx
    · rcases h.fo hr with e | e
      · rw [e, way_top h] at hx; cases hx
      · have q := ih j hj e hx
        obtain ⟨j2, r2, hj2, hr2, rfl⟩ := names_at q
        exact List.mem_map.mpr ⟨r2, List.mem_take_iff_getElem.mpr ⟨j2, by have := (List.getElem?_eq_some_iff.mp hr2).1; omega, (List.getElem?_eq_some_iff.mp hr2).2⟩, rfl⟩
    · rw [List.mem_singleton.mp hx]; exact hz
/-- what lies within z -/
def isIn (rs : List Row) (z : Str) (r : Row) : Bool := decide (r.nm ≠ z) && (decide (z = ("top" : Str)) || decide (z ∈ wayOf rs r.nm))
def belowL (rs : List Row) (z : Str) : List Str := (rs.filter (isIn rs z)).map (·.nm)
def insideL (rs : List Row) (z : Str) : List Str := (rs.filter fun r => decide (r.fo = z)).map (·.nm)
theorem below_in {rs : List Row} (h : Valid rs) {z : Str} (hz : z = ("top" : Str) ∨ z ∈ names rs) {i : Nat} {r : Row} (hr : rs[i]? = some r) :
    decide (r.fo ∈ z :: ((rs.take i).filter (isIn rs z)).map (·.nm)) = isIn rs z r := by
  have hrm := List.mem_of_getElem? hr
  have hfo := h.fo hr
  have f := h i r hr
  have mem : ∀ x : Str, x ∈ ((rs.take i).filter (isIn rs z)).map (·.nm) ↔ (x ∈ names (rs.take i) ∧ x ≠ z ∧ (z = ("top" : Str) ∨ z ∈ wayOf rs x)) := by
    intro x
    constructor
    · intro hx
      obtain ⟨q, hq, rfl⟩ := List.mem_map.mp hx
      obtain ⟨h1, h2⟩ := List.mem_filter.mp hq
      unfold isIn at h2
      simp at h2
      exact ⟨List.mem_map.mpr ⟨q, h1, rfl⟩, h2.1, h2.2⟩
    · rintro ⟨hx, h1, h2⟩
      obtain ⟨q, hq, rfl⟩ := List.mem_map.mp hx
      refine List.mem_map.mpr ⟨q, List.mem_filter.mpr ⟨hq, ?_⟩, rfl⟩
      unfold isIn
      simp
      exact ⟨h1, h2⟩
  by_cases e : r.nm = z
  · have e1 : isIn rs z r = false := by unfold isIn; simp [e]
    rw [e1]
    refine decide_eq_false fun hm => ?_
    rcases List.mem_cons.mp hm with q | q
    · rcases hfo with e2 | e2
      · exact f.top (e.trans (q.symm.trans e2))
      · rw [q, ← e] at e2; exact f.new e2
    · obtain ⟨q1, q2, q3⟩ := (mem _).mp q
      rcases q3 with q3 | q3
      · exact f.top (e.trans q3)
      · have := way_pre h i q1 q3
        rw [← e] at this
        exact f.new this
  · have e1 : isIn rs z r = (decide (z = ("top" : Str)) || decide (z ∈ wayOf rs r.nm)) := by unfold isIn; simp [e]
    rw [e1]
    have w : z ∈ wayOf rs r.nm ↔ z ∈ wayOf rs r.fo := by
      rw [way_step h hrm, List.mem_append, List.mem_singleton]
      exact ⟨fun q => q.resolve_right fun q => e q.symm, .inl⟩
    by_cases ht : z = ("top" : Str)
    · rw [decide_eq_true ht, Bool.true_or]
      refine decide_eq_true ?_
      rcases hfo with e2 | e2
      · rw [e2, ht]; exact List.mem_cons_self ..
      · refine List.mem_cons_of_mem _ ((mem _).mpr ⟨e2, fun q => ?_, .inl ht⟩)
        rw [q, ht] at e2
        exact top_not h (names_take e2)
    · rw [decide_eq_false ht, Bool.false_or]
      refine decide_eq_decide.mpr ?_
      rw [w]
      constructor
      · intro hm
        rcases List.mem_cons.mp hm with q | q
        · rw [q]; exact way_self h (hz.resolve_left ht)
        · exact ((mem _).mp q).2.2.resolve_left ht
      · intro hm
        by_cases q : r.fo = z
        · rw [q]; exact List.mem_cons_self ..
        · rcases hfo with e2 | e2
          · rw [e2, way_top h] at hm; cases hm
          · exact List.mem_cons_of_mem _ ((mem _).mpr ⟨e2, q, .inr hm⟩)
end Ts

set_option maxRecDepth 100000
set_option maxHeartbeats 4000000
namespace Ts
open PySem L2
def kvB (l : List Str) : List (Key × V) := l.map fun x => (.inr x, .bl true)
theorem valV_kvB (z : Str) : ∀ l : List Str, (valV (kvB l) (.inr z : Key)).isSome = decide (z ∈ l)
  | [] => by simp [kvB, valV]
  | x :: l => by
    have ih := valV_kvB z l
    show (valV ((.inr x, V.bl true) :: kvB l) (.inr z : Key)).isSome = _
    by_cases e : x = z
    · rw [valV_pos (by rw [e])]
      subst e
      simp
    · rw [valV_neg (fun q => e (Sum.inr.inj q)), ih]
      have e' : ¬ z = x := fun q => e q.symm
      simp [e']
theorem kvB_put {l : List Str} {x : Str} (h : x ∉ l) : putK (kvB l) (.inr x) (.bl true) = kvB (l ++ [x]) := by
  rw [putK_new]
  · unfold kvB; rw [List.map_append]; rfl
  · have q := valV_kvB x l
    rw [decide_eq_false h] at q
    simpa using q
def spListOf (C : Addr) (g : List Row → Str → List Str) : Sp := fun vs H Q _ => ∃ (t : Addr) (z : Str) (rs : List Row), vs = [.ref t, .str z] ∧ TreeAt C H t rs ∧ (z = ("top" : Str) ∨ z ∈ names rs) ∧
  ∀ D H', H D = none → Same H H' → H' D = some (.lst ((g rs z).map V.str)) → Q (.ref D) H'
theorem filter_take {rs : List Row} {i : Nat} {r : Row} (h : rs[i]? = some r) (p : Row → Bool) : ((rs.take (i + 1)).filter p).map (·.nm) = ((rs.take i).filter p).map (·.nm) ++ (if p r = true then [r.nm] else []) := by
  rw [take_more h, List.filter_append, List.map_append]
  by_cases e : p r = true
  · rw [if_pos e, List.filter_cons_of_pos e]; rfl
  · rw [if_neg e, List.filter_cons_of_neg e]; rfl
theorem kvF_at {g : Row → V} {rs : List Row} {i : Nat} {k : Key} {v : V} (h : (kvF g rs)[i]? = some (k, v)) : ∃ r, rs[i]? = some r ∧ k = .inr r.nm ∧ v = g r := by
  unfold kvF at h
  rw [List.getElem?_map] at h
  obtain ⟨r, e, q⟩ := Option.map_eq_some_iff.mp h
  injection q with q1 q2
  exact ⟨r, e, q1.symm, q2.symm⟩
theorem rowOf_at {rs : List Row} (h : Valid rs) {i : Nat} {r : Row} (hr : rs[i]? = some r) : rowOf rs r.nm = some r := by
  unfold rowOf
  rw [List.find?_eq_some_iff_getElem]
  have hi := (List.getElem?_eq_some_iff.mp hr).1
  refine ⟨decide_eq_true rfl, i, hi, (List.getElem?_eq_some_iff.mp hr).2, fun j hj => ?_⟩
  simp only [Bool.not_eq_true', decide_eq_false_iff_not]
  intro e
  exact (h i r hr).new (List.mem_map.mpr ⟨rs[j], List.mem_take_iff_getElem.mpr ⟨j, by omega, rfl⟩, e⟩)
section
variable {P : Program} {w : World} {K : PySem.W.Frag} {mg : Str → Option Value} {base : Heap} {C : Addr}
abbrev nBelow : List Str := ["self", "box", "within", "name"]
theorem sc_Tree_below : FnScope nBelow ["self", "box"] (defScope s_Tree_below) := ⟨rfl, rfl, rfl, by decide +kernel, rfl, by decide +kernel, by decide +kernel⟩
theorem cutV_tail (x : V) (xs : List V) : cutV (x :: xs) (some 1) none = xs := by
  unfold cutV
  rw [HT.sIx_none, show HT.sIx (x :: xs).length 0 (some 1) = 1 from by rw [show (some 1 : Option Int) = some ((1 : Nat) : Int) from rfl, HT.sIx_nat, List.length_cons]; omega]
  show (xs.take ((x :: xs).length - 1)) = xs
  rw [List.length_cons, Nat.add_sub_cancel, List.take_length]
theorem ok_Tree_below {f : Addr} {fd : FuncData} (F : Fun K "below" "Tree.below" s_Tree_below f fd) (Dp : DefAt K mg "check_place" s_check_place ["tree", "thing"]) (Gp : FnOk P w K mg base CX0 4 Dp.f Dp.fd ["tree", "thing"] (spPlace C)) (B : TxB mg) (T : TxT K mg C) : FnOk P w K mg base CX0 5 f fd ["self", "box"] (spListOf C belowL) := by
  refine F.ok sc_Tree_below (fun vs H Q E h => ?_) (fun cdv A outer s H vs Q E hr h => ?_)
  · obtain ⟨t, z, rs, rfl, _⟩ := h
    rfl
  · obtain ⟨t, z, rs, rfl, ht, hz, hq⟩ := h
    have hu := hu_of hr
    obtain ⟨dx, q, f, k, p, qs, h1, h2, h3, h4, h5, h6⟩ := ht.ex
    refine ⟨_, pss_cons (ps_expr (pe_call Gp hr rfl Dp.g Dp.F.kp Dp.b .nil pass0 (pa_cons (pv 0) (pa_cons (pv 1) pa_nil))))
      (pss_cons (ps_set (i := 2) sc_Tree_below.nd rfl (.inl rfl) (pe_disp (pps_cons (pv 1) pe_bl pps_nil) (by rfl) (by rfl) (fun z => by cases z) (by decide)))
      (pss_cons (ps_lock (ps_for PassesOwn.never rfl (pi_keys (pe_fld (pv 0) rfl)) (pg_name (i := 3) sc_Tree_below.nd rfl (.inl rfl))
        (pss_one (ps_if (pt_cmp (pc_din hu (pe_dget hu (pe_fld (pv 0) rfl) (pv 3) (fun _ _ => rfl)) (pv 2))) (pss_one (ps_dput hu (pv 2) (pv 3) pe_bl rfl)) pss_nil))))
      (pss_one (ps_ret (pe_slice sl_list (pe_callTy (call_list_dK rfl) (by rfl) B.list (by decide +kernel) (pa_cons (pv 2) pa_nil)) (po_some pe_int) po_none))))), ?_⟩
    refine ⟨_, rfl, _, rfl, t, z, rs, rfl, ht, hz, ?_⟩
    refine fun wd hwd => ⟨_, rfl, upd_same, [(.inr z, .bl true)], rfl, (by show 1 ≤ 15; decide), ?_⟩
    have tw : t ≠ wd := ne_of_none h1 hwd
    have fw : f ≠ wd := ne_of_none h4 hwd
    have tf_ : t ≠ f := ne_of h1 h4 (by intro x; cases x)
    have fw' : f ≠ wd := fw
    refine ⟨f, _, Eq.trans (upd_ne fw) (Eq.trans (upd_ne fw) h4), trivial, fun od => ?_⟩
    obtain ⟨Hl, El⟩ : ∃ Hx, Hx = upd (upd (upd H wd (.dK [])) wd (.dK (mergeK [] [(.inr z, .bl true)]))) f (.frz od (.dK (kvF (fun r => .str r.fo) rs))) := ⟨_, rfl⟩
    have l1 : Hl t = some (.ins C dx (tf q f k p)) := by rw [El, upd_ne tf_, upd_ne tw, upd_ne tw]; exact h1
    have l2 : Hl f = some (.frz od (.dK (kvF (fun r => .str r.fo) rs))) := by rw [El]; exact upd_same
    have l3 : Hl wd = some (.dK (kvB [z])) := by rw [El, upd_ne fw.symm]; exact upd_same
    have l4 : ∀ b o, b ≠ f → H b = some o → Hl b = some o := fun b o nb e => by rw [El, upd_ne nb, upd_ne (ne_of_none e hwd), upd_ne (ne_of_none e hwd)]; exact e
    have l5 : Same Hl Hl := Same.refl _
    rw [← El]
    clear El
    refine ⟨_, rfl, t, C, dx, _, _, rfl, l1, T.cl, T.nf, tf_f _ _ _ _, f, od, rfl, .inl ⟨_, l2, ?_⟩⟩
    refine for_it (walk_keys (d := f) (o := od) (kvs := kvF (fun r => .str r.fo) rs)) (fun i σ H' => ∃ v : Option V, σ = [some (.ref t), some (.str z), some (.ref wd), v] ∧ SB wd Hl H' ∧ H' wd = some (.dK (kvB (z :: ((rs.take i).filter (isIn rs z)).map (·.nm)))))
      ⟨none, rfl, SB.refl _ _, l3⟩ (fun i σ H' _ ⟨_, _, sb, _⟩ => sb _ _ fw l2) ?_ ?_
    · rintro i x σ H2 H2' hi ⟨v, rfl, sb, hw⟩ ⟨rfl, k', v', hk, rfl⟩
      obtain ⟨r, hr', rfl, rfl⟩ := kvF_at hk
      have e1 : H2' t = some (.ins C dx (tf q f k p)) := sb _ _ tw l1
      have e2 : H2' f = some (.frz od (.dK (kvF (fun r => .str r.fo) rs))) := sb _ _ fw l2
      have dg : DGet H2' f (.str r.nm) (some (.str r.fo)) := by
        have e := rowOf_at ht.val hr'
        refine .inl ⟨_, .inr r.nm, .inr ⟨od, e2⟩, rfl, ?_⟩
        rw [valV_kvF, show (rs.find? fun r' => decide (r'.nm = r.nm)) = some r from e]
        rfl
      refine ⟨_, rfl, t, C, dx, _, _, rfl, e1, T.cl, T.nf, tf_f _ _ _ _, _, rfl, f, _, rfl, dg, _, rfl, wd, _, rfl, DGet.k (k := Sum.inr r.fo) hw, _, rfl, ?_⟩
      rw [valV_kvB, below_in ht.val hz hr']
      have i100 : i < 100 := by
        have := (List.getElem?_eq_some_iff.mp hr').1
        have := ht.len
        omega
      refine ite2 (fun hc => ?_) (fun hc => ?_)
      · have nw : r.nm ∉ z :: ((rs.take i).filter (isIn rs z)).map (·.nm) := fun hm => by
          rcases List.mem_cons.mp hm with y | y
          · unfold isIn at hc
            simp [y] at hc
          · obtain ⟨q1, hq1, e⟩ := List.mem_map.mp y
            exact (ht.val i r hr').new (List.mem_map.mpr ⟨q1, (List.mem_filter.mp hq1).1, e⟩)
        refine ⟨_, rfl, _, rfl, wd, _, rfl, DPut.k (k := Sum.inr r.nm) hw (small1000 ?_), ?_⟩
        · unfold kvB
          rw [List.length_map, List.length_cons, List.length_map]
          have := List.length_filter_le (isIn rs z) (rs.take i)
          rw [List.length_take] at this
          omega
        · refine ⟨_, rfl, fun b o nb e => by rw [upd_ne nb]; exact sb b o nb e, ?_⟩
          rw [upd_same, kvB_put nw, filter_take hr', if_pos hc]
          rfl
      · refine ⟨_, rfl, sb, ?_⟩
        rw [filter_take hr', if_neg hc, List.append_nil]
        exact hw
    · rintro σ H2 ⟨v, rfl, sb, hw⟩
      have e : (kvF (fun r => V.str r.fo) rs).length = rs.length := by unfold kvF; rw [List.length_map]
      rw [e, List.take_length] at hw
      refine ⟨sb _ _ fw l2, ?_⟩
      have hw' : (upd H2 f (.dK (kvF (fun r => .str r.fo) rs))) wd = some (.dK (kvB (z :: belowL rs z))) := by rw [upd_ne fw.symm]; exact hw
      have sH : Same H (upd H2 f (.dK (kvF (fun r => .str r.fo) rs))) := fun b o eb => by
        by_cases hb : b = f
        · rw [hb, upd_same, ← h4, ← hb]; exact eb
        · rw [upd_ne hb]
          exact sb b o (ne_of_none eb hwd) (l4 b o hb eb)
      refine ⟨_, rfl, wd, _, rfl, hw', fun u hu' => ⟨_, rfl, u, _, rfl, SqL.of upd_same, fun D hD => ?_⟩⟩
      refine hq D _ ?_ ((sH.trans (Same.new hu')).trans (Same.new hD)) ?_
      · exact (sH.trans (Same.new hu')).free hD
      · have e3 : (kvB (z :: belowL rs z)).map (fun kv => kV kv.1) = V.str z :: (belowL rs z).map V.str := by
          unfold kvB
          rw [List.map_map]
          rfl
        rw [upd_same, e3, cutV_tail]
end
end Ts

set_option maxRecDepth 100000
set_option maxHeartbeats 4000000
namespace Ts
open PySem L2
/-- a list of rows, all tuples -/
structure RowsL (H : Hp) (p : Addr) (rs : List Row) : Prop where
  ex : ∃ as : List Addr, H p = some (.lst (as.map V.ref)) ∧ RowsAt H as rs
theorem RowsL.same {H H' : Hp} {p : Addr} {rs : List Row} (h : RowsL H p rs) (s : Same H H') : RowsL H' p rs := by
  obtain ⟨as, h1, h2⟩ := h.ex
  exact ⟨as, s _ _ h1, h2.same s⟩
def spWay : Sp := fun vs H Q _ => ∃ (p : Addr) (z : Str) (rs : List Row), vs = [.ref p, .str z] ∧ RowsL H p rs ∧ Valid rs ∧ rs.length ≤ 100 ∧ (z = ("top" : Str) ∨ z ∈ names rs) ∧
  ∀ D H', H D = none → Same H H' → H' D = some (.lst ((wayOf rs z).map V.str)) → Q (.ref D) H'
theorem atI0 (a b c d : V) : atI [a, b, c, d] 0 = some a := rfl
theorem atI1 (a b c d : V) : atI [a, b, c, d] 1 = some b := rfl
theorem atI2 (a b c d : V) : atI [a, b, c, d] 2 = some c := rfl
theorem atI3 (a b c d : V) : atI [a, b, c, d] 3 = some d := rfl
theorem merge_kvF (g : Row → V) {rs : List Row} (h : Valid rs) : ∀ n, n ≤ rs.length → mergeK [] (kvF g (rs.take n)) = kvF g (rs.take n) := by
  intro n
  induction n with
  | zero => intro _; rfl
  | succ n ih =>
    intro hn
    have hr : rs[n]? = some rs[n] := List.getElem?_eq_getElem (by omega)
    have e : kvF g (rs.take (n + 1)) = kvF g (rs.take n) ++ [(.inr rs[n].nm, g rs[n])] := by
      rw [take_more hr]; unfold kvF; rw [List.map_append]; rfl
    rw [e]
    unfold mergeK
    rw [List.foldl_append]
    have ih' := ih (by omega)
    unfold mergeK at ih'
    rw [ih']
    show putK (kvF g (rs.take n)) (.inr rs[n].nm) (g rs[n]) = _
    rw [kvF_more hr (h n _ hr).new, e]
theorem merge_all (g : Row → V) {rs : List Row} (h : Valid rs) : mergeK [] (kvF g rs) = kvF g rs := by
  have := merge_kvF g h rs.length (Nat.le_refl _)
  rw [List.take_length] at this
  exact this
def muWay (rs : List Row) : List (Option V) → Hp → Nat
  | _ :: some (.str z) :: _, _ => (wayOf rs z).length
  | _, _ => 0
theorem way_len {rs : List Row} {z : Str} : (wayOf rs z).length ≤ rs.length := by
  have : ∀ (l : List Row) (z : Str), (wayR l z).length ≤ l.length := by
    intro l
    induction l with
    | nil => intro z; exact Nat.le_refl _
    | cons r l ih =>
      intro z
      unfold wayR
      split
      · rw [List.length_append, List.length_singleton, List.length_cons]; have := ih r.fo; omega
      · rw [List.length_cons]; have := ih z; omega
  have q := this rs.reverse z
  rw [List.length_reverse] at q
  exact q
theorem Valid.foAll {rs : List Row} (h : Valid rs) {r : Row} (hr : r ∈ rs) : r.fo = ("top" : Str) ∨ r.fo ∈ names rs := by
  obtain ⟨i, hi, e⟩ := List.mem_iff_getElem.mp hr
  have := h.fo (i := i) (r := r) (by rw [← e]; exact List.getElem?_eq_getElem hi)
  exact this.imp id names_take
section
variable {P : Program} {w : World} {K : PySem.W.Frag} {mg : Str → Option Value} {base : Heap} {C : Addr}
abbrev nWay : List Str := ["_law_rows_here", "_law_box", "_law_folders", "_law_found", "_law_row"]
theorem sc_way : FnScope nWay ["_law_rows_here", "_law_box"] (defScope s_L_way) := ⟨rfl, rfl, rfl, by decide +kernel, rfl, by decide +kernel, by decide +kernel⟩
theorem ok_way (D : DefAt K mg "_law_way" s_L_way ["_law_rows_here", "_law_box"]) (B : TxB mg) : FnOk P w K mg base CX0 2 D.f D.fd ["_law_rows_here", "_law_box"] spWay := by
  refine D.F.ok sc_way (fun vs H Q E h => ?_) (fun cdv A outer s H vs Q E hr h => ?_)
  · obtain ⟨p, z, rs, rfl, _⟩ := h
    rfl
  · obtain ⟨p, z, rs, rfl, ⟨as, hp, hrows⟩, hv, hl, hz, hq⟩ := h
    have hu := hu_of hr
    refine ⟨_, pss_cons (ps_par (i := 2) (j := 3) rfl sc_way.nd rfl rfl (by decide) rfl rfl (pa_cons (pe_callTy (call_dictP rfl) (by rfl) B.dict (by decide +kernel) (pa_cons (pe_lc (own := [("_law_row", 4)]) (g := gName 4) (tt := tYes) (te := tTup (tCons (tOp (rIxT K) (tVar 4) (tC (.int 0))) (tCons (tOp (rIxT K) (tVar 4) (tC (.int 1))) tNil))) rfl sc_way.nd (pi_list (pv 0)) (blkOk_by (N := nWay) (sc := defScope s_L_way) (by decide +kernel))
        (fun _ _ _ _ _ => pg_name (i := 4) sc_way.nd rfl (Or.inl rfl)) (fun _ _ _ _ _ => pts_nil) (fun _ _ _ _ _ => by exact pe_tup (pa_cons (pe_ix ix_tup (pv 4) pe_int (fun _ _ => rfl)) (pa_cons (pe_ix ix_tup (pv 4) pe_int (fun _ _ => rfl)) pa_nil)))) pa_nil)) (pa_cons (pe_lst pa_nil) pa_nil)) (by rfl))
      (pss_cons (ps_while PassesOwn.never (pt_cmpR op_ne (pv 1) pe_str (nomark _))
        (pss_cons (ps_expr (pe_bm PySem.F.plainAttrs_list PySem.F.slot_list_insert PySem.F.type_list_insert mt_insert (pv 3) (pa_cons pe_int (pa_cons (pv 1) pa_nil))))
        (pss_one (ps_set (i := 1) sc_way.nd rfl (.inl rfl) (pe_dget hu (pv 2) (pv 1) (fun _ _ => rfl))))))
      (pss_one (ps_ret (pv 3)))), ?_⟩
    refine ⟨_, rfl, p, rfl, ⟨_, SqL.of hp⟩, fun Dl hDl => ?_⟩
    refine lc_list (K := K) (a := p) (xs := as.map V.ref) (fun i H' => ∃ ps : List Addr, Same H H' ∧ H' Dl = some (.lst (ps.map V.ref)) ∧ Paired (fun q (kv : Key × V) => SqT K H' q [kV kv.1, kv.2]) ps (kvF (fun r => .str r.fo) (rs.take i))) ⟨[], Same.new hDl, upd_same, .nil⟩ (fun i H' _ ⟨_, s, _⟩ => s.seq (SqL.of hp)) ?_ ?_
    · rintro i x H2 hx ⟨ps, sm, hD2, pr⟩
      rw [List.getElem?_map] at hx
      obtain ⟨ra, hra, rfl⟩ := Option.map_eq_some_iff.mp hx
      obtain ⟨r, hr'⟩ : ∃ r, rs[i]? = some r := ⟨rs[i]'(by rw [← hrows.len]; exact (List.getElem?_eq_some_iff.mp hra).1), List.getElem?_eq_getElem _⟩
      have e := sm _ _ (hrows.at_ i ra r hra hr')
      refine ⟨rfl, tYes_if ⟨_, rfl, ra, _, _, _, rfl, rfl, sqT e, atI0 _ _ _ _, _, rfl, ra, _, _, _, rfl, rfl, sqT e, atI1 _ _ _ _, (by show 2 ≤ sizeLine; decide), fun t ht => ?_⟩⟩
      have nDt : Dl ≠ t := ne_of_none hD2 ht
      have pl := pr.length
      refine ⟨ps.map V.ref, by rw [upd_ne nDt]; exact hD2, small1000 (by rw [List.length_map, pl]; unfold kvF; rw [List.length_map, List.length_take]; omega), ps ++ [t], fun b o eb => ?_, by rw [upd_same, List.map_append]; rfl, ?_⟩
      · rw [upd_ne (fun y => by rw [y, hDl] at eb; cases eb), upd_ne (ne_of_none (sm _ _ eb) ht)]
        exact sm _ _ eb
      · have ek : kvF (fun r => V.str r.fo) (rs.take (i + 1)) = kvF (fun r => V.str r.fo) (rs.take i) ++ [(.inr r.nm, .str r.fo)] := by
          rw [take_more hr']; unfold kvF; rw [List.map_append]; rfl
        rw [ek]
        have keep : ∀ {b : Addr} {xs : List V}, SqT K H2 b xs → SqT K (upd (upd H2 t (.tup [V.str r.nm, .str r.fo])) Dl (.lst (ps.map V.ref ++ [V.ref t]))) b xs := fun {b xs} h => by
          rcases h with (h | ⟨o, h⟩) | h
          · exact .inl (.inl (by rw [upd_ne (fun y => by rw [y, hD2] at h; cases h), upd_ne (ne_of_none h ht)]; exact h))
          · exact .inl (.inr ⟨o, by rw [upd_ne (fun y => by rw [y, hD2] at h; cases h), upd_ne (ne_of_none h ht)]; exact h⟩)
          · exact .inr h
        exact (pr.mono fun _ _ h => keep h).snoc (sqT (by rw [upd_ne nDt.symm]; exact upd_same))
    · rintro H2 ⟨ps, sm, hD2, pr⟩
      rw [List.length_map, hrows.len, List.take_length] at pr
      refine ⟨Dl, ps, kvF (fun r => .str r.fo) rs, rfl, SqL.of hD2, pr, fun fd hfd => ?_⟩
      rw [merge_all _ hv]
      refine ⟨Nat.zero_le _, fun fo hfo => ⟨_, _, rfl, ?_⟩⟩
      have n1 : fd ≠ fo := fun y => by rw [← y, upd_same] at hfo; cases hfo
      have s3 : Same H (upd (upd H2 fd (.dK (kvF (fun r => .str r.fo) rs))) fo (.lst [])) := (sm.trans (Same.new hfd)).trans (Same.new hfo)
      have fofree : H fo = none := (sm.trans (Same.new hfd)).free hfo
      refine while_by (fun σ H' => ∃ (z' : Str) (v : Option V) (fs : List Str), σ = [some (.ref p), some (.str z'), some (.ref fd), some (.ref fo), v] ∧ (z' = ("top" : Str) ∨ z' ∈ names rs) ∧ Same H H' ∧ H' fd = some (.dK (kvF (fun r => .str r.fo) rs)) ∧ H' fo = some (.lst (fs.map V.str)) ∧ wayOf rs z' ++ fs = wayOf rs z) (muWay rs)
        ⟨z, none, [], rfl, hz, s3, by rw [upd_ne n1]; exact upd_same, upd_same, by simp⟩ ?_ (fun σ H Q Q' hQ ⟨v, e, sc, k, e2, q⟩ => ⟨v, e, sc, k, e2, hQ _ _ q⟩)
      rintro σ H4 ⟨z', v, fs, rfl, hz', s4, hfd4, hfo4, ew⟩
      refine ⟨_, rfl, rfl, _, rfl, ?_⟩
      refine ite2 (fun hc => ?_) (fun hc => ?_)
      · have hn : z' ≠ ("top" : Str) := fun e => by rw [e] at hc; simp at hc
        have hin := hz'.resolve_left hn
        obtain ⟨r, e1, hrm, rfl⟩ := rowOf_some hin
        have ws := way_step hv hrm
        have lw := way_len (rs := rs) (z := z)
        have lf : fs.length ≤ 100 := by
          have := congrArg List.length ew
          rw [List.length_append] at this
          omega
        refine ⟨_, rfl, .inl ⟨rfl, _, SqL.of hfo4⟩, _, rfl, fo, _, 0, _, rfl, rfl, hfo4, small1000 (by rw [List.length_map]; omega), by decide, by decide, ?_⟩
        have n1' : fd ≠ fo := n1
        refine ⟨_, rfl, _, rfl, fd, .str r.fo, rfl, ?_, ?_⟩
        · have dg := DGet.k (k := Sum.inr r.nm) (show (upd H4 fo (.lst ((fs.map V.str).take (0 : Int).toNat ++ [V.str r.nm] ++ (fs.map V.str).drop (0 : Int).toNat))) fd = some (.dK (kvF (fun r => .str r.fo) rs)) from by rw [upd_ne n1']; exact hfd4)
          rw [valV_kvF, show (rs.find? fun q => decide (q.nm = r.nm)) = some r from e1] at dg
          exact dg
        · refine ⟨⟨r.fo, v, r.nm :: fs, rfl, hv.foAll hrm, fun b o e => ?_, by rw [upd_ne n1']; exact hfd4, upd_same, ?_⟩, ?_⟩
          · rw [upd_ne (fun y => by rw [y, fofree] at e; cases e)]
            exact s4 _ _ e
          · rw [← ew, ws]; simp
          · show (wayOf rs r.fo).length < (wayOf rs r.nm).length
            rw [ws]; simp
      · have ht : z' = ("top" : Str) := Classical.byContradiction fun e => hc (by
          show (!decide (V.str z' = V.str ("top" : Str))) = true
          rw [decide_eq_false (fun q => e (V.str.inj q))]; rfl)
        refine ⟨_, rfl, hq fo H4 fofree s4 ?_⟩
        rw [hfo4, ← ew, ht, way_top hv]; rfl
end
end Ts

set_option maxRecDepth 100000
set_option maxHeartbeats 4000000
namespace Ts
open PySem L2
/-! ### what changes a tree -/
theorem Valid.append {pre L : List Row} (h : Valid pre) (k : ∀ i r, L[i]? = some r → Fits (pre ++ L.take i) r) : Valid (pre ++ L) := by
  intro i r hr
  rcases Nat.lt_or_ge i pre.length with hi | hi
  · rw [List.getElem?_append_left hi] at hr
    rw [List.take_append_of_le_length (Nat.le_of_lt hi)]
    exact h i r hr
  · rw [List.getElem?_append_right hi] at hr
    have e : (pre ++ L).take i = pre ++ L.take (i - pre.length) := by
      rw [List.take_append, List.take_of_length_le hi]
    rw [e]
    exact k _ _ hr
/-- where a kept row stood -/
theorem filter_at {p : Row → Bool} : ∀ {rs : List Row} {i : Nat} {r : Row}, (rs.filter p)[i]? = some r → ∃ j, rs[j]? = some r ∧ p r = true ∧ (rs.filter p).take i = (rs.take j).filter p
  | [], _, _, h => by simp at h
  | q :: rs, i, r, h => by
    by_cases e : p q = true
    · rw [List.filter_cons_of_pos e] at h ⊢
      cases i with
      | zero =>
        have : q = r := by simpa using h
        subst this
        exact ⟨0, rfl, e, by simp⟩
      | succ i =>
        obtain ⟨j, h1, h2, h3⟩ := filter_at (rs := rs) (i := i) (r := r) (by simpa using h)
        refine ⟨j + 1, by simpa using h1, h2, ?_⟩
        rw [List.take_succ_cons, List.take_succ_cons, List.filter_cons_of_pos e, h3]
    · rw [List.filter_cons_of_neg e] at h ⊢
      obtain ⟨j, h1, h2, h3⟩ := filter_at (rs := rs) (i := i) (r := r) h
      refine ⟨j + 1, by simpa using h1, h2, ?_⟩
      rw [List.take_succ_cons, List.filter_cons_of_neg e, h3]
theorem Valid.filter {rs : List Row} {p : Row → Bool} (h : Valid rs) (hp : ∀ r ∈ rs, p r = true → ∀ q ∈ rs, q.nm = r.fo → p q = true) : Valid (rs.filter p) := by
  intro i r hr
  obtain ⟨j, h1, h2, h3⟩ := filter_at hr
  rw [h3]
  have f := h j r h1
  refine ⟨f.shape, f.top, fun hm => ?_, ?_, f.kind, f.price⟩
  · obtain ⟨q, hq, e⟩ := List.mem_map.mp hm
    exact f.new (List.mem_map.mpr ⟨q, (List.mem_filter.mp hq).1, e⟩)
  · rcases f.home with e | ⟨q, hq, e1, e2⟩
    · exact .inl e
    · exact .inr ⟨q, List.mem_filter.mpr ⟨hq, hp r (List.mem_of_getElem? h1) h2 q (List.mem_of_mem_take hq) e1⟩, e1, e2⟩
/-- what lies beneath z, z with it -/
def under (rs : List Row) (z : Str) (r : Row) : Bool := decide (z ∈ wayOf rs r.nm)
theorem under_self {rs : List Row} (h : Valid rs) {z : Str} {r : Row} (hr : r ∈ rs) (e : r.nm = z) : under rs z r = true := by
  unfold under
  rw [← e]
  exact decide_eq_true (way_self h (List.mem_map.mpr ⟨r, hr, rfl⟩))
theorem under_iff {rs : List Row} (h : Valid rs) {z : Str} (hz : z ≠ ("top" : Str)) {r : Row} (hr : r ∈ rs) : under rs z r = (decide (r.nm = z) || isIn rs z r) := by
  by_cases e : r.nm = z
  · rw [under_self h hr e, decide_eq_true e, Bool.true_or]
  · rw [decide_eq_false e, Bool.false_or]
    unfold isIn under
    rw [decide_eq_true e, decide_eq_false hz, Bool.true_and, Bool.false_or]
theorem gone_iff {rs : List Row} (h : Valid rs) {z : Str} (hz : z ≠ ("top" : Str)) {r : Row} (hr : r ∈ rs) : decide (r.nm ∈ z :: belowL rs z) = under rs z r := by
  rw [under_iff h hz hr]
  by_cases e : r.nm = z
  · rw [decide_eq_true e, Bool.true_or]
    exact decide_eq_true (by rw [e]; exact List.mem_cons_self ..)
  · rw [decide_eq_false e, Bool.false_or]
    by_cases i : isIn rs z r = true
    · rw [i]
      exact decide_eq_true (List.mem_cons_of_mem _ (List.mem_map.mpr ⟨r, List.mem_filter.mpr ⟨hr, i⟩, rfl⟩))
    · rw [Bool.not_eq_true] at i
      rw [i]
      refine decide_eq_false fun hm => ?_
      rcases List.mem_cons.mp hm with q | q
      · exact e q
      · obtain ⟨r2, h2, e2⟩ := List.mem_map.mp q
        obtain ⟨h3, h4⟩ := List.mem_filter.mp h2
        unfold isIn at h4 i
        rw [e2] at h4
        rw [h4] at i
        cases i
/-- a row whose folder lies beneath z does so, too -/
theorem under_up {rs : List Row} (h : Valid rs) {z : Str} {r q : Row} (hr : r ∈ rs) (hq : q ∈ rs) (e : q.nm = r.fo) (hu : under rs z q = true) : under rs z r = true := by
  unfold under at hu ⊢
  rw [way_step h hr, ← e]
  exact decide_eq_true (List.mem_append_left _ (of_decide_eq_true hu))
def lessL (rs : List Row) (z : Str) : List Row := rs.filter fun r => !under rs z r
theorem less_valid {rs : List Row} (h : Valid rs) (z : Str) : Valid (lessL rs z) :=
  h.filter fun r hr hp q hq e => by
    cases hu : under rs z q with
    | false => rfl
    | true => rw [under_up h hr hq e hu] at hp; cases hp
/-- the rows behind a move -/
def movedL (rs : List Row) (m : Row) (fo : Str) : List Row := lessL rs m.nm ++ ({ m with fo := fo } :: rs.filter (isIn rs m.nm))
theorem moved_valid {rs : List Row} (h : Valid rs) {m : Row} (hm : m ∈ rs) {fo : Str} (hf : fo = ("top" : Str) ∨ ∃ q ∈ rs, q.nm = fo ∧ q.ki = ("folder" : Str) ∧ under rs m.nm q = false) : Valid (movedL rs m fo) := by
  have mt : m.nm ≠ ("top" : Str) := fun e => top_not h (by rw [← e]; exact List.mem_map.mpr ⟨m, hm, rfl⟩)
  obtain ⟨k, hk, ek⟩ := List.mem_iff_getElem.mp hm
  have fm := h k m (by rw [← ek]; exact List.getElem?_eq_getElem hk)
  have v1 : Valid (lessL rs m.nm ++ [{ m with fo := fo }]) := by
    refine (less_valid h m.nm).snoc ⟨fm.shape, fm.top, fun hx => ?_, ?_, fm.kind, fm.price⟩
    · obtain ⟨q, hq, e⟩ := List.mem_map.mp hx
      obtain ⟨q1, q2⟩ := List.mem_filter.mp hq
      rw [under_self h q1 e] at q2
      cases q2
    · rcases hf with e | ⟨q, hq, e1, e2, e3⟩
      · exact .inl e
      · exact .inr ⟨q, List.mem_filter.mpr ⟨hq, by rw [e3]; rfl⟩, e1, e2⟩
  have e : movedL rs m fo = (lessL rs m.nm ++ [{ m with fo := fo }]) ++ rs.filter (isIn rs m.nm) := by unfold movedL; simp
  rw [e]
  refine v1.append fun i r hr => ?_
  obtain ⟨j, h1, h2, h3⟩ := filter_at hr
  have f := h j r h1
  have hrm := List.mem_of_getElem? h1
  have ur : under rs m.nm r = true := by rw [under_iff h mt hrm, h2, Bool.or_true]
  have nz : r.nm ≠ m.nm := fun e => by unfold isIn at h2; simp [e] at h2
  rw [h3]
  refine ⟨f.shape, f.top, fun hx => ?_, ?_, f.kind, f.price⟩
  · rw [List.map_append, List.map_append] at hx
    rcases List.mem_append.mp hx with hx | hx
    · rcases List.mem_append.mp hx with hx | hx
      · obtain ⟨q, hq, e⟩ := List.mem_map.mp hx
        obtain ⟨q1, q2⟩ := List.mem_filter.mp hq
        have : under rs m.nm q = true := by unfold under at ur ⊢; rw [e]; exact ur
        rw [this] at q2
        cases q2
      · simp at hx
        exact nz hx
    · obtain ⟨q, hq, e⟩ := List.mem_map.mp hx
      exact f.new (List.mem_map.mpr ⟨q, (List.mem_filter.mp hq).1, e⟩)
  · rcases f.home with e | ⟨q, hq, e1, e2⟩
    · exfalso
      unfold isIn at h2
      rw [decide_eq_true nz, decide_eq_false mt, Bool.true_and, Bool.false_or, way_step h hrm, e, way_top h] at h2
      simp at h2
      exact nz h2.symm
    · by_cases eq1 : q.nm = m.nm
      · have : q = m := by
          have a := rowOf_at h (i := k) (r := m) (by rw [← ek]; exact List.getElem?_eq_getElem hk)
          obtain ⟨k2, hk2, ek2⟩ := List.mem_iff_getElem.mp (List.mem_of_mem_take hq)
          have b := rowOf_at h (i := k2) (r := q) (by rw [← ek2]; exact List.getElem?_eq_getElem hk2)
          rw [eq1, a] at b
          exact (Option.some.inj b).symm
        subst this
        exact .inr ⟨{ q with fo := fo }, by simp, e1, e2⟩
      · refine .inr ⟨q, List.mem_append_right _ (List.mem_filter.mpr ⟨hq, ?_⟩), e1, e2⟩
        have hqm := List.mem_of_mem_take hq
        have : under rs m.nm q = true := by
          unfold under at ur ⊢
          rw [way_step h hrm, ← e1] at ur
          have := of_decide_eq_true ur
          rcases List.mem_append.mp this with x | x
          · exact decide_eq_true x
          · exact absurd (List.mem_singleton.mp x).symm nz
        rw [under_iff h mt hqm, decide_eq_false eq1, Bool.false_or] at this
        exact this
theorem names_inj {rs : List Row} (h : Valid rs) {q m : Row} (hq : q ∈ rs) (hm : m ∈ rs) (e : q.nm = m.nm) : q = m := by
  obtain ⟨k, hk, ek⟩ := List.mem_iff_getElem.mp hm
  obtain ⟨k2, hk2, ek2⟩ := List.mem_iff_getElem.mp hq
  have a := rowOf_at h (i := k) (r := m) (by rw [← ek]; exact List.getElem?_eq_getElem hk)
  have b := rowOf_at h (i := k2) (r := q) (by rw [← ek2]; exact List.getElem?_eq_getElem hk2)
  rw [e, a] at b
  exact (Option.some.inj b).symm
/-- of all beneath z, z stands first -/
theorem under_split {rs : List Row} (h : Valid rs) {m : Row} (hm : m ∈ rs) : rs.filter (under rs m.nm) = m :: rs.filter (isIn rs m.nm) := by
  have mt : m.nm ≠ ("top" : Str) := fun e => top_not h (by rw [← e]; exact List.mem_map.mpr ⟨m, hm, rfl⟩)
  obtain ⟨k, hk, ek⟩ := List.mem_iff_getElem.mp hm
  have hkm : rs[k]? = some m := by rw [← ek]; exact List.getElem?_eq_getElem hk
  have e0 : rs = rs.take k ++ m :: rs.drop (k + 1) := by
    rw [← ek, List.getElem_cons_drop, List.take_append_drop]
  have a1 : (rs.take k).filter (under rs m.nm) = [] := by
    rw [List.filter_eq_nil_iff]
    intro q hq hu
    have hqn : q.nm ∈ names (rs.take k) := List.mem_map.mpr ⟨q, hq, rfl⟩
    exact (h k m hkm).new (way_pre h k hqn (of_decide_eq_true hu))
  have a2 : (rs.take k).filter (isIn rs m.nm) = [] := by
    rw [List.filter_eq_nil_iff]
    intro q hq hu
    have hqr := List.mem_of_mem_take hq
    have : under rs m.nm q = true := by rw [under_iff h mt hqr, hu, Bool.or_true]
    exact (List.filter_eq_nil_iff.mp a1) q hq this
  have b1 : under rs m.nm m = true := under_self h hm rfl
  have b2 : isIn rs m.nm m = false := by unfold isIn; simp
  have c1 : (rs.drop (k + 1)).filter (under rs m.nm) = (rs.drop (k + 1)).filter (isIn rs m.nm) := by
    refine List.filter_congr fun q hq => ?_
    have hqr := List.mem_of_mem_drop hq
    rw [under_iff h mt hqr]
    have : ¬ q.nm = m.nm := fun e => by
      have e2 := names_inj h hqr hm e
      rw [e2] at hq
      obtain ⟨j, hj, ej⟩ := List.mem_iff_getElem.mp hq
      rw [List.getElem_drop] at ej
      rw [List.length_drop] at hj
      have f := h (k + 1 + j) m (by rw [← ej]; exact List.getElem?_eq_getElem _)
      exact f.new (List.mem_map.mpr ⟨m, List.mem_take_iff_getElem.mpr ⟨k, by omega, ek⟩, rfl⟩)
    rw [decide_eq_false this, Bool.false_or]
  have l : ∀ p : Row → Bool, rs.filter p = (rs.take k).filter p ++ (m :: rs.drop (k + 1)).filter p := fun p => by
    rw [← List.filter_append, ← e0]
  rw [l (under rs m.nm), l (isIn rs m.nm), a1, a2, List.filter_cons_of_pos b1, List.filter_cons_of_neg (by rw [b2]; simp), c1]
  rfl
end Ts

set_option maxRecDepth 100000
set_option maxHeartbeats 4000000
namespace Ts
open PySem L2
/-! ### what a meaning says of a box -/
/-- the default, turned as often as boxes on the way are turned -/
def turned (d : Bool) (ts : List Str) : List Str → Bool
  | [] => d
  | x :: l => turned (if x ∈ ts then !d else d) ts l
theorem turned_snoc (ts : List Str) (x : Str) : ∀ (l : List Str) (d : Bool), turned d ts (l ++ [x]) = if x ∈ ts then !(turned d ts l) else turned d ts l
  | [], d => rfl
  | y :: l, d => turned_snoc ts x l _
theorem turned_odd (ts : List Str) : ∀ (l : List Str) (d : Bool), turned d ts l = (d != decide ((l.filter fun x => decide (x ∈ ts)).length % 2 = 1))
  | [], d => by cases d <;> rfl
  | y :: l, d => by
    show turned (if y ∈ ts then !d else d) ts l = _
    rw [turned_odd ts l]
    by_cases h : y ∈ ts
    · rw [if_pos h, List.filter_cons_of_pos (by simpa using h), List.length_cons]
      rcases Nat.mod_two_eq_zero_or_one (l.filter fun x => decide (x ∈ ts)).length with e | e
      · rw [decide_eq_false (by omega), decide_eq_true (by omega)]; cases d <;> rfl
      · rw [decide_eq_true (by omega), decide_eq_false (by omega)]; cases d <;> rfl
    · rw [if_neg h, List.filter_cons_of_neg (by simpa using h)]
def valOf (rs : List Row) (d : Bool) (ts : List Str) (z : Str) : Bool := turned d ts (wayOf rs z)
theorem val_top {rs : List Row} (h : Valid rs) (d : Bool) (ts : List Str) : valOf rs d ts ("top" : Str) = d := by
  unfold valOf; rw [way_top h]; rfl
theorem val_step {rs : List Row} (h : Valid rs) (d : Bool) (ts : List Str) {r : Row} (hr : r ∈ rs) : valOf rs d ts r.nm = (valOf rs d ts r.fo != decide (r.nm ∈ ts)) := by
  unfold valOf
  rw [way_step h hr, turned_snoc]
  by_cases e : r.nm ∈ ts
  · rw [if_pos e, decide_eq_true e]; cases turned d ts (wayOf rs r.fo) <;> rfl
  · rw [if_neg e, decide_eq_false e]; cases turned d ts (wayOf rs r.fo) <;> rfl
theorem below_top {rs : List Row} (h : Valid rs) : belowL rs ("top" : Str) = names rs := by
  unfold belowL names
  have : rs.filter (isIn rs ("top" : Str)) = rs := by
    rw [List.filter_eq_self]
    intro r hr
    have : r.nm ≠ ("top" : Str) := fun e => top_not h (by rw [← e]; exact List.mem_map.mpr ⟨r, hr, rfl⟩)
    unfold isIn
    rw [decide_eq_true this, decide_eq_true rfl]; rfl
  rw [this]
/-- the values of all places, the top ahead -/
def kvM (rs : List Row) (d : Bool) (ts : List Str) (l : List Row) : List (Key × V) := (.inr ("top" : Str), .bl d) :: kvF (fun r => .bl (valOf rs d ts r.nm)) l
theorem valV_kvM {rs : List Row} (h : Valid rs) (d : Bool) (ts : List Str) {l : List Row} {z : Str} (hz : z = ("top" : Str) ∨ (z ≠ ("top" : Str) ∧ z ∈ names l)) : valV (kvM rs d ts l) (.inr z : Key) = some (.bl (valOf rs d ts z)) := by
  rcases hz with rfl | ⟨hn, hz⟩
  · show valV ((.inr ("top" : Str), .bl d) :: kvF (fun r => .bl (valOf rs d ts r.nm)) l) (.inr ("top" : Str) : Key) = _
    rw [valV_pos rfl, val_top h]
  · show valV ((.inr ("top" : Str), .bl d) :: kvF (fun r => .bl (valOf rs d ts r.nm)) l) (.inr z : Key) = _
    rw [valV_neg (fun q => hn (Sum.inr.inj q).symm), valV_kvF]
    obtain ⟨r, e, _, e2⟩ := rowOf_some hz
    rw [show (l.find? fun r => decide (r.nm = z)) = some r from e]
    show some (V.bl (valOf rs d ts r.nm)) = _
    rw [e2]
theorem kvM_more {rs : List Row} (h : Valid rs) (d : Bool) (ts : List Str) {i : Nat} {r : Row} (hr : rs[i]? = some r) : putK (kvM rs d ts (rs.take i)) (.inr r.nm) (.bl (valOf rs d ts r.nm)) = kvM rs d ts (rs.take (i + 1)) := by
  have f := h i r hr
  rw [putK_new _ (by
    show (valV ((.inr ("top" : Str), .bl d) :: kvF (fun r => .bl (valOf rs d ts r.nm)) (rs.take i)) (.inr r.nm : Key)) = none
    rw [valV_neg (fun q => f.top (Sum.inr.inj q).symm), valV_kvF, find_none f.new]; rfl), take_more hr]
  unfold kvM kvF
  rw [List.map_append]
  rfl
def spValues (C : Addr) : Sp := fun vs H Q _ => ∃ (t u : Addr) (d : Bool) (ts : List Str) (rs : List Row), vs = [.ref t, .bl d, .ref u] ∧ TreeAt C H t rs ∧ H u = some (.tup (ts.map V.str)) ∧
  ∀ D H', H D = none → Same H H' → H' D = some (.dK (kvM rs d ts rs)) → Q (.ref D) H'
section
variable {P : Program} {w : World} {K : PySem.W.Frag} {mg : Str → Option Value} {base : Heap} {C : Addr}
abbrev nValues : List Str := ["tree", "default", "turns", "values", "box"]
theorem sc_values_of : FnScope nValues ["tree", "default", "turns"] (defScope s_values_of) := ⟨rfl, rfl, rfl, by decide +kernel, rfl, by decide +kernel, by decide +kernel⟩
theorem ok_values_of (D : DefAt K mg "values_of" s_values_of ["tree", "default", "turns"]) (TC : TxC K mg) (T : TxT K mg C)
    (mB : MethAt K C "below" "Tree.below" s_Tree_below ["self", "box"]) (GB : FnOk P w K mg base CX0 5 mB.f mB.fd ["self", "box"] (spListOf C belowL))
    (mF : MethAt K C "folder" "Tree.folder" s_Tree_folder ["self", "box"]) (GF : FnOk P w K mg base CX0 4 mF.f mF.fd ["self", "box"] (spGet C fun r => .str r.fo)) : FnOk P w K mg base CX0 6 D.f D.fd ["tree", "default", "turns"] (spValues C) := by
  obtain ⟨t1, gT⟩ := TC.top
  refine D.F.ok sc_values_of (fun vs H Q E h => ?_) (fun cdv A outer s H vs Q E hr h => ?_)
  · obtain ⟨t, u, d, ts, rs, rfl, _⟩ := h
    rfl
  · obtain ⟨t, u, d, ts, rs, rfl, ht, hu', hq⟩ := h
    have hu := hu_of hr
    have hr3 : Room 4 _ := hr.mono (by decide)
    refine ⟨_, pss_cons (ps_set (i := 3) sc_values_of.nd rfl (.inl rfl) (pe_disp (pps_cons (pe_glob (by rfl) gT (v := .str ("top" : Str)) ⟨_, rfl⟩) (pv 1) pps_nil) (by rfl) (by rfl) (fun z => by cases z) (by decide)))
      (pss_cons (ps_for PassesOwn.never rfl (pi_list (pe_meth (pv 0) T.cl mB.m GB hr mB.b .nil pass0 (pa_cons (pe_glob (by rfl) gT (v := .str ("top" : Str)) ⟨_, rfl⟩) pa_nil))) (pg_name (i := 4) sc_values_of.nd rfl (.inl rfl))
        (pss_one (ps_dput hu (pv 3) (pv 4) (pe_cmpR op_ne (pe_dget hu (pv 3) (pe_meth (pv 0) T.cl mF.m GF hr3 mF.b .nil pass0 (pa_cons (pv 4) pa_nil)) (fun _ _ => rfl)) (pe_cmpR op_in_seq (pv 4) (pv 2) (by rfl)) (nomark _)) rfl)))
      (pss_one (ps_ret (pv 3)))), ?_⟩
    have hv := ht.val
    have l100 := ht.len
    obtain ⟨dx, q, f, k, p, qs, h1, h2, h3, h4, h5, h6⟩ := id ht.ex
    have noB : (tf q f k p).lookup ("below" : Str) = none := tf_no _ _ _ _ (by decide +kernel) (by decide +kernel) (by decide +kernel) (by decide +kernel)
    have noF : (tf q f k p).lookup ("folder" : Str) = none := tf_no _ _ _ _ (by decide +kernel) (by decide +kernel) (by decide +kernel) (by decide +kernel)
    refine fun wd hwd => ⟨_, rfl, upd_same, [(.inr ("top" : Str), .bl d)], rfl, (by show 1 ≤ 15; decide), ?_⟩
    have sA : Same H (upd (upd H wd (.dK [])) wd (.dK (mergeK [] [(.inr ("top" : Str), .bl d)]))) := fun b o e => by
      rw [upd_ne (ne_of_none e hwd), upd_ne (ne_of_none e hwd)]; exact e
    have eA : (upd (upd H wd (.dK [])) wd (.dK (mergeK [] [(.inr ("top" : Str), .bl d)]))) wd = some (.dK (kvM rs d ts [])) := upd_same
    generalize upd (upd H wd (.dK [])) wd (.dK (mergeK [] [(.inr ("top" : Str), .bl d)])) = H1 at sA eA
    refine ⟨_, rfl, t, dx, _, rfl, sA _ _ h1, noB, t, ("top" : Str), rs, rfl, ht.same sA, .inl rfl, fun bl H2 hbl s2 e2 => ?_⟩
    rw [below_top hv] at e2
    have sB := sA.trans s2
    have nw : ∀ {b : Addr} {o : HO}, H b = some o → b ≠ wd := fun {b o} e => ne_of_none e hwd
    have nbw : bl ≠ wd := fun e => by rw [← e, hbl] at eA; cases eA
    refine ⟨bl, rfl, ⟨_, SqL.of e2⟩, ?_⟩
    refine for_list (K := K) (a := bl) (xs := (names rs).map V.str) (fun i σ H' => ∃ v : Option V, σ = [some (.ref t), some (.bl d), some (.ref u), some (.ref wd), v] ∧ SB wd H2 H' ∧ H' wd = some (.dK (kvM rs d ts (rs.take i)))) ⟨_, rfl, SB.refl _ _, s2 _ _ eA⟩ (fun i σ H' _ ⟨_, _, sb, _⟩ => SqL.of (sb _ _ nbw e2)) ?_ ?_
    · rintro i x σ H3 hx ⟨v, rfl, sb, hw⟩
      unfold names at hx
      rw [List.getElem?_map, List.getElem?_map] at hx
      obtain ⟨n1, hn1, rfl⟩ := Option.map_eq_some_iff.mp hx
      obtain ⟨r, hr', rfl⟩ := Option.map_eq_some_iff.mp hn1
      have hrm := List.mem_of_getElem? hr'
      have ro := rowOf_at hv hr'
      have s3 : SB wd H H3 := (SB.of sB).trans sb
      have t3 : TreeAt C H3 t rs := by
        refine ⟨⟨dx, q, f, k, p, qs, s3 _ _ (nw h1) h1, s3 _ _ (nw h2) h2, ⟨h3.len, fun j b w hb hw => s3 _ _ (nw (h3.at_ j b w hb hw)) (h3.at_ j b w hb hw)⟩, s3 _ _ (nw h4) h4, s3 _ _ (nw h5) h5, s3 _ _ (nw h6) h6⟩, hv, l100⟩
      have fo : r.fo = ("top" : Str) ∨ (r.fo ≠ ("top" : Str) ∧ r.fo ∈ names (rs.take i)) := by
        by_cases e : r.fo = ("top" : Str)
        · exact .inl e
        · exact .inr ⟨e, (hv.fo hr').resolve_left e⟩
      have dg := DGet.k (k := Sum.inr r.fo) hw
      rw [valV_kvM hv d ts fo] at dg
      refine ⟨_, rfl, _, rfl, t, dx, _, rfl, s3 _ _ (nw h1) h1, noF, _, rfl, t, r.nm, rs, r, rfl, t3, ro, wd, _, rfl, dg, _, rfl, _, rfl, u, _, rfl, .inr (sqT (s3 _ _ (nw hu') hu')), rfl, flat_strs _, rfl, ?_⟩
      refine ⟨_, rfl, _, rfl, wd, _, rfl, DPut.k (k := Sum.inr r.nm) hw (small1000 (by unfold kvM kvF; rw [List.length_cons, List.length_map, List.length_take]; omega)), ?_⟩
      refine ⟨_, rfl, fun b o nb e => by rw [upd_ne nb]; exact sb b o nb e, ?_⟩
      rw [upd_same, ← kvM_more hv d ts hr', val_step hv d ts hrm]
      have e : (if false = true then !inV (.str r.nm) (ts.map V.str) else inV (.str r.nm) (ts.map V.str)) = decide (r.nm ∈ ts) := by
        rw [if_neg Bool.false_ne_true, inV_strs]
      rw [e]
      congr 3
      cases valOf rs d ts r.fo <;> cases decide (r.nm ∈ ts) <;> rfl
    · rintro σ H3 ⟨v, rfl, sb, hw⟩
      unfold names at hw
      rw [List.length_map, List.length_map, List.take_length] at hw
      exact ⟨_, rfl, hq wd H3 hwd (fun b o e => (SB.of sB).trans sb b o (nw e) e) hw⟩
end
end Ts

set_option maxRecDepth 100000
set_option maxHeartbeats 4000000
namespace Ts
open PySem L2
def Free (rs : List Row) (x : Str) : Prop := ∃ r, rowOf rs x = some r ∧ r.pr ≠ none
theorem Free.mem {rs : List Row} {x : Str} (h : Free rs x) : x ∈ names rs := by
  obtain ⟨r, e, _⟩ := h
  have e' : rs.find? (fun r => decide (r.nm = x)) = some r := e
  have e2 := List.find?_some e'
  exact List.mem_map.mpr ⟨r, List.mem_of_find?_eq_some e', of_decide_eq_true e2⟩
/-- a list or a tuple, the program's own ones too -/
def SqX (K : PySem.W.Frag) (H : Hp) (a : Addr) (xs : List V) : Prop := SqL K H a xs ∨ SqT K H a xs
theorem SqX.eq {K : PySem.W.Frag} {H H' : Hp} {a : Addr} {xs : List V} (h : SqX K H a xs) (e : H' a = H a) : SqX K H' a xs := by
  unfold SqX SqL SqT Rd at h ⊢
  rw [e]
  exact h
theorem SqX.keep {K : PySem.W.Frag} {H H' : Hp} {a : Addr} {xs : List V} (h : SqX K H a xs) (s : ∀ o, (∀ C dx fs, o ≠ HO.ins C dx fs) → H a = some o → H' a = some o) : SqX K H' a xs := by
  rcases h with ((h | ⟨o, h⟩) | h) | ((h | ⟨o, h⟩) | h)
  · exact .inl (.inl (.inl (s _ (fun _ _ _ z => by cases z) h)))
  · exact .inl (.inl (.inr ⟨o, s _ (fun _ _ _ z => by cases z) h⟩))
  · exact .inl (.inr h)
  · exact .inr (.inl (.inl (s _ (fun _ _ _ z => by cases z) h)))
  · exact .inr (.inl (.inr ⟨o, s _ (fun _ _ _ z => by cases z) h⟩))
  · exact .inr (.inr h)
theorem SqX.same {K : PySem.W.Frag} {H H' : Hp} {a : Addr} {xs : List V} (h : SqX K H a xs) (s : Same H H') : SqX K H' a xs := h.keep fun o _ e => s _ _ e
theorem SqX.sbm {K : PySem.W.Frag} {H H' : Hp} {a m C dx : Addr} {fs : List (Str × V)} {xs : List V} (h : SqX K H a xs) (hm : H m = some (.ins C dx fs)) (s : SB m H H') : SqX K H' a xs :=
  h.keep fun o no e => s _ _ (fun q => by rw [q, hm] at e; exact no _ _ _ (Option.some.inj e).symm) e
/-- x itself, a list or a tuple, in slot i -/
def iSeqX (K : PySem.W.Frag) (i : Nat) : TI := fun σ H R => ∃ (a : Addr) (xs : List V), σ[i]? = some (some (.ref a)) ∧ SqX K H a xs ∧ ∀ J, Walk J xs.length (fun H' => H' a = H a) (YAt xs) → R J H
theorem pi_seqX {X : Cx} {e tg : Expr} {i : Nat} (he : PE X e (tVar i)) : PI X tg e (iSeqX X.K i) := by
  refine ⟨fun pins s σ H R I h => ?_⟩
  obtain ⟨a, xs, e1, hq, k⟩ := h
  have sub : ∀ {H' : Hp}, H' a = H a → (SqL X.K H a xs → SqL X.K H' a xs) ∧ (SqT X.K H a xs → SqT X.K H' a xs) := fun {H'} e => by
    unfold SqL SqT Rd
    rw [e]
    exact ⟨id, id⟩
  rcases hq with hq | hq
  · exact (pi_list he).run pins s σ H R I ⟨_, e1, a, rfl, ⟨_, hq⟩, k _ (walk_list.mono (fun H' e => (sub e).1 hq) fun _ _ _ _ _ _ y => y)⟩
  · exact (pi_tup he).run pins s σ H R I ⟨_, e1, a, rfl, ⟨_, hq⟩, k _ (walk_tup.mono (fun H' e => (sub e).2 hq) fun _ _ _ _ _ _ y => y)⟩
def spCheckTurns (K : PySem.W.Frag) (C : Addr) : Sp := fun vs H Q _ => ∃ (t u : Addr) (xs : List Str) (rs : List Row), vs = [.ref t, .ref u] ∧ TreeAt C H t rs ∧ SqX K H u (xs.map V.str) ∧ (∀ x ∈ xs, Free rs x) ∧ Q .non H
def mf (t u k : Addr) (d : Bool) : List (Str × V) := putF "known" (.ref k) (putF "turns" (.ref u) (putF "default" (.bl d) (putF "tree" (.ref t) [])))
/-- the turned boxes, in the tree's order -/
def turnsL (rs : List Row) (xs : List Str) : List Str := (names rs).filter fun z => decide (z ∈ xs)
theorem turnsL_norm (rs : List Row) (xs : List Str) : turnsL rs xs = turnsL rs (turnsL rs xs) := by
  unfold turnsL
  refine List.filter_congr fun z hz => ?_
  by_cases e : z ∈ xs
  · simp [e, hz]
  · simp [e]
structure MeanAt (C CM : Addr) (H : Hp) (m t : Addr) (rs : List Row) (d : Bool) (ts : List Str) : Prop where
  ex : ∃ (dx u k : Addr), H m = some (.ins CM dx (mf t u k d)) ∧ H u = some (.tup (ts.map V.str)) ∧ H k = some (.dK (kvM rs d ts rs))
  tree : TreeAt C H t rs
  norm : ts = turnsL rs ts
theorem MeanAt.sub {C CM : Addr} {H : Hp} {m t : Addr} {rs : List Row} {d : Bool} {ts : List Str} (h : MeanAt C CM H m t rs d ts) : ∀ x ∈ ts, x ∈ names rs := fun x hx => by
  rw [h.norm] at hx
  exact (List.mem_filter.mp hx).1
theorem MeanAt.len {C CM : Addr} {H : Hp} {m t : Addr} {rs : List Row} {d : Bool} {ts : List Str} (h : MeanAt C CM H m t rs d ts) : ts.length ≤ 100 := by
  rw [h.norm]
  unfold turnsL names
  have h1 := List.length_filter_le (fun z => decide (z ∈ ts)) (rs.map (·.nm))
  have h2 := h.tree.len
  rw [List.length_map] at h1
  omega
theorem MeanAt.same {C CM : Addr} {H H' : Hp} {m t : Addr} {rs : List Row} {d : Bool} {ts : List Str} (h : MeanAt C CM H m t rs d ts) (s : Same H H') : MeanAt C CM H' m t rs d ts := by
  obtain ⟨dx, u, k, h1, h2, h3⟩ := h.ex
  exact ⟨⟨dx, u, k, s _ _ h1, s _ _ h2, s _ _ h3⟩, h.tree.same s, h.norm⟩
structure TxM (K : PySem.W.Frag) (mg : Str → Option Value) (CM : Addr) : Prop where
  cl : Cls K CM
  nt : NoAttr K CM "tree"
  nd : NoAttr K CM "default"
  nu : NoAttr K CM "turns"
  nk : NoAttr K CM "known"
  g : mg "Meaning" = some (.ref CM)
def spMeaningInit (K : PySem.W.Frag) (C CM : Addr) : Sp := fun vs H Q _ => ∃ (m dx t h : Addr) (d : Bool) (xs : List Str) (rs : List Row), vs = [.ref m, .ref t, .bl d, .ref h] ∧ H m = some (.ins CM dx []) ∧ TreeAt C H t rs ∧ SqX K H h (xs.map V.str) ∧ (∀ x ∈ xs, Free rs x) ∧
  ∀ H', SB m H H' → MeanAt C CM H' m t rs d (turnsL rs xs) → Q .non H'
section
variable {P : Program} {w : World} {K : PySem.W.Frag} {mg : Str → Option Value} {base : Heap} {C CM : Addr}
abbrev nCheckTurns : List Str := ["tree", "turns", "box"]
theorem sc_check_turns : FnScope nCheckTurns ["tree", "turns"] (defScope s_check_turns) := ⟨rfl, rfl, rfl, by decide +kernel, rfl, by decide +kernel, by decide +kernel⟩
theorem ok_check_turns (D : DefAt K mg "check_turns" s_check_turns ["tree", "turns"]) (Db : DefAt K mg "check_box" s_check_box ["tree", "thing"]) (Gb : FnOk P w K mg base CX0 3 Db.f Db.fd ["tree", "thing"] (spBox C)) (T : TxT K mg C)
    (mP : MethAt K C "price" "Tree.price" s_Tree_price ["self", "box"]) (GP : FnOk P w K mg base CX0 4 mP.f mP.fd ["self", "box"] (spGet C fun r => prV r.pr)) : FnOk P w K mg base CX0 5 D.f D.fd ["tree", "turns"] (spCheckTurns K C) := by
  refine D.F.ok sc_check_turns (fun vs H Q E h => ?_) (fun cdv A outer s H vs Q E hr h => ?_)
  · obtain ⟨t, u, xs, rs, rfl, _⟩ := h
    rfl
  · obtain ⟨t, u, xs, rs, rfl, ht, hx, hfree, hq⟩ := h
    have hr2 : Room 3 _ := hr.mono (by decide)
    obtain ⟨dx, q, f, k, p, qs, h1, h2, h3, h4, h5, h6⟩ := id ht.ex
    have noP : (tf q f k p).lookup ("price" : Str) = none := tf_no _ _ _ _ (by decide +kernel) (by decide +kernel) (by decide +kernel) (by decide +kernel)
    refine ⟨_, pss_cons (ps_for PassesOwn.never rfl (pi_seqX (i := 1) (pv 1)) (pg_name (i := 2) sc_check_turns.nd rfl (.inl rfl))
        (pss_one (ps_expr (pe_call Gb hr2 rfl Db.g Db.F.kp Db.b .nil pass0 (pa_cons (pv 0) (pa_cons (pv 2) pa_nil))))))
      (pss_one (ps_for PassesOwn.never rfl (pi_seqX (i := 1) (pv 1)) (pg_name (i := 2) sc_check_turns.nd rfl (.inl rfl))
        (pss_one (ps_if (pt_cmpR op_isN (pe_meth (pv 0) T.cl mP.m GP hr mP.b .nil pass0 (pa_cons (pv 2) pa_nil)) pe_non (nomark _)) (pss_one ps_never) pss_nil)))), ?_⟩
    have at_ : ∀ {i : Nat} {x : V}, (xs.map V.str)[i]? = some x → ∃ z, x = .str z ∧ Free rs z := fun {i x} hx => by
      rw [List.getElem?_map] at hx
      obtain ⟨z, hz, rfl⟩ := Option.map_eq_some_iff.mp hx
      exact ⟨z, rfl, hfree z (List.mem_of_getElem? hz)⟩
    refine ⟨u, _, rfl, hx, fun J W => ?_⟩
    refine for_it W (fun i σ H' => ∃ v : Option V, σ = [some (.ref t), some (.ref u), v] ∧ H' = H) ⟨none, rfl, rfl⟩ (fun i σ H' _ ⟨_, _, e⟩ => by rw [e]) ?_ ?_
    · rintro i x σ H2 H3 hi ⟨v, rfl, rfl⟩ ⟨rfl, hxi⟩
      obtain ⟨z, rfl, hz⟩ := at_ hxi
      exact ⟨_, rfl, _, rfl, t, z, rs, rfl, ht, hz.mem, _, rfl, rfl⟩
    rintro σ H2 ⟨v, rfl, rfl⟩
    refine ⟨u, _, rfl, hx, fun J W => ?_⟩
    refine for_it W (fun i σ H' => ∃ v : Option V, σ = [some (.ref t), some (.ref u), v] ∧ H' = H2) ⟨v, rfl, rfl⟩ (fun i σ H' _ ⟨_, _, e⟩ => by rw [e]) ?_ ?_
    · rintro i x σ H3 H4 hi ⟨v, rfl, rfl⟩ ⟨rfl, hxi⟩
      obtain ⟨z, rfl, r, hr', hp⟩ := at_ hxi
      refine ⟨_, rfl, t, dx, _, rfl, h1, noP, _, rfl, t, z, rs, r, rfl, ht, hr', ?_⟩
      have e2 : decide ((fun r : Row => prV r.pr) r = V.non) = false := by
        cases e : r.pr with
        | none => exact absurd e hp
        | some i => show decide (prV r.pr = V.non) = false; rw [e]; exact decide_eq_false (fun h => by cases h)
      refine ⟨rfl, _, rfl, ?_⟩
      rw [e2]
      exact iteF ⟨_, rfl, rfl⟩
    · rintro σ H3 ⟨v, rfl, rfl⟩
      exact hq
end
end Ts

set_option maxRecDepth 100000
set_option maxHeartbeats 4000000
namespace Ts
open PySem L2
theorem mtd_ : ¬ (("tree" : Str) = "default") := by decide +kernel
theorem mtu_ : ¬ (("tree" : Str) = "turns") := by decide +kernel
theorem mtk_ : ¬ (("tree" : Str) = "known") := by decide +kernel
theorem mdu_ : ¬ (("default" : Str) = "turns") := by decide +kernel
theorem mdk_ : ¬ (("default" : Str) = "known") := by decide +kernel
theorem muk_ : ¬ (("turns" : Str) = "known") := by decide +kernel
theorem mf_t (t u k : Addr) (d : Bool) : (mf t u k d).lookup ("tree" : Str) = some (.ref t) := by
  unfold mf
  rw [lookup_putF, if_neg mtk_, lookup_putF, if_neg mtu_, lookup_putF, if_neg mtd_, lookup_putF, if_pos rfl]
theorem mf_d (t u k : Addr) (d : Bool) : (mf t u k d).lookup ("default" : Str) = some (.bl d) := by
  unfold mf
  rw [lookup_putF, if_neg mdk_, lookup_putF, if_neg mdu_, lookup_putF, if_pos rfl]
theorem mf_u (t u k : Addr) (d : Bool) : (mf t u k d).lookup ("turns" : Str) = some (.ref u) := by
  unfold mf
  rw [lookup_putF, if_neg muk_, lookup_putF, if_pos rfl]
theorem mf_k (t u k : Addr) (d : Bool) : (mf t u k d).lookup ("known" : Str) = some (.ref k) := by
  unfold mf
  rw [lookup_putF, if_pos rfl]
theorem mf_no (t u k : Addr) (d : Bool) {m : Str} (h1 : ¬ m = "tree") (h2 : ¬ m = "default") (h3 : ¬ m = "turns") (h4 : ¬ m = "known") : (mf t u k d).lookup m = none := by
  unfold mf
  rw [lookup_putF, if_neg h4, lookup_putF, if_neg h3, lookup_putF, if_neg h2, lookup_putF, if_neg h1]
  rfl
theorem turns_more {rs : List Row} {i : Nat} {r : Row} (h : rs[i]? = some r) (xs : List Str) : (names (rs.take (i + 1))).filter (fun z => decide (z ∈ xs)) = (names (rs.take i)).filter (fun z => decide (z ∈ xs)) ++ (if decide (r.nm ∈ xs) = true then [r.nm] else []) := by
  unfold names
  rw [take_more h, List.map_append, List.filter_append]
  by_cases e : r.nm ∈ xs
  · simp [e]
  · simp [e]
theorem TreeAt.sbm {C CM : Addr} {H H' : Hp} {t m dx : Addr} {rs : List Row} (h : TreeAt C H t rs) (hm : H m = some (.ins CM dx [])) (s : SB m H H') : TreeAt C H' t rs := by
  obtain ⟨tx, q, f, k, p, qs, h1, h2, h3, h4, h5, h6⟩ := h.ex
  have w : ∀ {b : Addr} {o : HO}, H b = some o → o ≠ .ins CM dx [] → H' b = some o := fun {b o} e1 no => s b o (fun eb => by rw [eb, hm] at e1; exact no (Option.some.inj e1).symm) e1
  refine ⟨⟨tx, q, f, k, p, qs, w h1 (fun e => ?_), w h2 (fun h => by cases h), ⟨h3.len, fun i b r hb hr => w (h3.at_ i b r hb hr) (fun h => by cases h)⟩, w h4 (fun h => by cases h), w h5 (fun h => by cases h), w h6 (fun h => by cases h)⟩, h.val, h.len⟩
  injection e with _ _ e3
  have e4 := tf_p q f k p
  rw [e3] at e4
  cases e4
/-- a def with defaults that lets nothing out -/
theorem okD {w : World} {P : Program} {K : PySem.W.Frag} {base : Heap} {mg : Str → Option Value} {qual x : Str} {fd : FuncData} {f : Addr} {ar : Arguments} {bo : List Stmt} {sc : Scope} {kws : List (Str × V)} {dvs : List V} {ps N : List Str} {n : Nat} {sp : Sp} (F : FunD K x qual ar bo sc dvs kws f fd) (S : FnScope N ps sc)
    (ln : ∀ vs H Q E, sp vs H Q E → vs.length = ps.length) (hb : ∀ (cdv : Value) (A : Around) (outer : List Env) (s : Shared) (H : Hp) (vs : List V) (Q : VK) (E : XK), Room n (A.deeper (PyProof.Rows.envOfC qual sc s.heap.objs.size f cdv)) → sp vs H Q E → ∃ t, PSs (cxOf CX0 P w K mg base N qual sc f cdv A outer s H E).nox bo t ∧ t { nx := fun _ H' => Q .non H', rt := Q } (start N vs) H) :
    FnOk P w K mg base CX0 (n + 1) f fd ps sp := by
  refine F.ok S ln fun cdv A outer s H vs Q E r hsp => ?_
  obtain ⟨t, h, q⟩ := hb cdv A outer s H vs Q E r hsp
  exact ⟨t, h.nox, q⟩
section
variable {P : Program} {w : World} {K : PySem.W.Frag} {mg : Str → Option Value} {base : Heap} {C CM : Addr}
abbrev nMInit : List Str := ["self", "tree", "default", "turns", "box"]
theorem sc_M_init : FnScope nMInit ["self", "tree", "default", "turns"] (defScope s_Meaning_init) := ⟨rfl, rfl, rfl, by decide +kernel, rfl, by decide +kernel, by decide +kernel⟩
theorem ok_M_init {f : Addr} {fd : FuncData} {dvs : List V} (F : FunD K "__init__" "Meaning.__init__" (defArgs s_Meaning_init) (defBody s_Meaning_init) (defScope s_Meaning_init) dvs [] f fd) (B : TxB mg) (TC : TxC K mg) (T : TxT K mg C) (M : TxM K mg CM)
    (Dc : DefAt K mg "check_turns" s_check_turns ["tree", "turns"]) (Gc : FnOk P w K mg base CX0 5 Dc.f Dc.fd ["tree", "turns"] (spCheckTurns K C))
    (Dv : DefAt K mg "values_of" s_values_of ["tree", "default", "turns"]) (Gv : FnOk P w K mg base CX0 6 Dv.f Dv.fd ["tree", "default", "turns"] (spValues C))
    (mB : MethAt K C "below" "Tree.below" s_Tree_below ["self", "box"]) (GB : FnOk P w K mg base CX0 5 mB.f mB.fd ["self", "box"] (spListOf C belowL)) :
    FnOk P w K mg base CX0 7 f fd ["self", "tree", "default", "turns"] (spMeaningInit K C CM) := by
  obtain ⟨t1, gT⟩ := TC.top
  refine okD F sc_M_init (fun vs H Q E h => ?_) (fun cdv A outer s H vs Q E hr h => ?_)
  · obtain ⟨m, dx, t, h, d, xs, rs, rfl, _⟩ := h
    rfl
  · obtain ⟨m, dx, t, h, d, xs, rs, rfl, hm, ht, hx, hfree, hq⟩ := h
    have hr4 : Room 5 _ := hr.mono (by decide)
    refine ⟨_, pss_cons (ps_if (pt_not (pt_val (pe_callB call_isi (by rfl) B.isinstance (by decide +kernel) (pa_cons (pv 2) (pa_cons (pe_bltn (by rfl) B.bool (by decide +kernel) (v := .ty "bool") rfl) pa_nil))))) (pss_one ps_never) pss_nil)
      (pss_cons (ps_expr (pe_call Gc hr4 rfl Dc.g Dc.F.kp Dc.b .nil pass0 (pa_cons (pv 1) (pa_cons (pv 3) pa_nil))))
      (pss_cons (ps_fld (pv 0) (pv 1) rfl)
      (pss_cons (ps_fld (pv 0) (pv 2) rfl)
      (pss_cons (ps_fld (pv 0) (pe_callTy call_tuple_of (by rfl) B.tuple (by decide +kernel) (pa_cons (pe_lc (own := [("box", 4)]) (g := gName 4) (tt := tTest (tOp (rIn K false) (tVar 4) (tVar 3))) (te := tVar 4) rfl sc_M_init.nd (pi_list (pe_meth (pv 1) T.cl mB.m GB hr4 mB.b .nil pass0 (pa_cons (pe_glob (by rfl) gT (v := .str ("top" : Str)) ⟨_, rfl⟩) pa_nil))) (blkOk_by (N := nMInit) (sc := defScope s_Meaning_init) (by decide +kernel))
          (fun _ _ _ _ _ => pg_name (i := 4) sc_M_init.nd rfl (Or.inl rfl)) (fun _ _ _ _ _ => by exact pts_one (pt_cmpR op_in_seq (pv 4) (pv 3) (by rfl))) (fun _ _ _ _ _ => pv 4)) pa_nil)) rfl)
      (pss_one (ps_fld (pv 0) (pe_call Gv hr rfl Dv.g Dv.F.kp Dv.b .nil pass0 (pa_cons (pv 1) (pa_cons (pv 2) (pa_cons (pe_fld (pv 0) rfl) pa_nil)))) rfl)))))), ?_⟩
    have hv := ht.val
    have l100 := ht.len
    obtain ⟨tx, q, f, k, p, qs, h1, _⟩ := id ht.ex
    have noB : (tf q f k p).lookup ("below" : Str) = none := tf_no _ _ _ _ (by decide +kernel) (by decide +kernel) (by decide +kernel) (by decide +kernel)
    refine ⟨_, rfl, _, _, _, _, true, rfl, .ty "bool", .base (.bl d), kit_ty (by decide +kernel), _, rfl, iteF ?_⟩
    refine ⟨_, rfl, _, rfl, t, h, xs, rs, rfl, ht, hx, hfree, ?_⟩
    refine ⟨_, rfl, _, rfl, m, CM, dx, _, rfl, hm, M.cl, M.nt, (by show 0 < 1000; decide), ?_⟩
    refine ⟨_, rfl, _, rfl, m, CM, dx, _, rfl, upd_same, M.cl, M.nd, (Nat.lt_of_le_of_lt (putF_len _ _ _) (by decide)), ?_⟩
    obtain ⟨Hb, Eb⟩ : ∃ Hx, Hx = upd (upd H m (.ins CM dx (putF "tree" (.ref t) []))) m (.ins CM dx (putF "default" (.bl d) (putF "tree" (.ref t) []))) := ⟨_, rfl⟩
    have bm : Hb m = some (.ins CM dx (putF "default" (.bl d) (putF "tree" (.ref t) []))) := by rw [Eb]; exact upd_same
    have sb : SB m H Hb := fun b o nb e => by rw [Eb, upd_ne nb, upd_ne nb]; exact e
    rw [← Eb]
    clear Eb
    have tb := ht.sbm hm sb
    have hxb : SqX K Hb h (xs.map V.str) := hx.sbm hm sb
    have htm : Hb t = some (.ins C tx (tf q f k p)) := by
      refine sb _ _ (fun e => ?_) h1
      rw [e, hm] at h1
      have e3 := Option.some.inj h1
      injection e3 with _ _ e3
      have e4 := tf_p q f k p
      rw [← e3] at e4
      cases e4
    refine ⟨_, rfl, t, tx, _, rfl, htm, noB, t, ("top" : Str), rs, rfl, tb, .inl rfl, fun bl H2 hbl s2 e2 => ?_⟩
    rw [below_top hv] at e2
    refine ⟨bl, rfl, ⟨_, SqL.of e2⟩, fun D hD => ?_⟩
    have hx2 := hxb.same s2
    refine lc_list (K := K) (a := bl) (xs := (names rs).map V.str) (fun i H' => Same H2 H' ∧ H' D = some (.lst (((names (rs.take i)).filter (fun z => decide (z ∈ xs))).map V.str))) ⟨Same.new hD, upd_same⟩ (fun i H' _ m => m.1.seq (SqL.of e2)) ?_ ?_
    · rintro i x H3 hxi ⟨s3, hD3⟩
      unfold names at hxi
      rw [List.getElem?_map, List.getElem?_map] at hxi
      obtain ⟨n1, hn1, rfl⟩ := Option.map_eq_some_iff.mp hxi
      obtain ⟨r, hr', rfl⟩ := Option.map_eq_some_iff.mp hn1
      have sz : (((names (rs.take i)).filter (fun z => decide (z ∈ xs))).map V.str).length < sizeLine := small1000 (by
        rw [List.length_map]
        have h1 := List.length_filter_le (fun z => decide (z ∈ xs)) (names (rs.take i))
        unfold names at h1 ⊢
        rw [List.length_map, List.length_take] at h1
        omega)
      refine ⟨rfl, _, rfl, _, rfl, h, _, rfl, (hx2.same s3), rfl, flat_strs _, _, rfl, ?_⟩
      have e : (if false = true then !inV (.str r.nm) (xs.map V.str) else inV (.str r.nm) (xs.map V.str)) = decide (r.nm ∈ xs) := by
        rw [if_neg Bool.false_ne_true, inV_strs]
      rw [e]
      refine ite2 (fun hc => ?_) (fun hc => ?_)
      · refine ⟨_, rfl, _, hD3, sz, fun b o eb => ?_, ?_⟩
        · rw [upd_ne (fun y => by rw [y, hD] at eb; cases eb)]
          exact s3 _ _ eb
        · rw [upd_same, turns_more hr', if_pos hc, List.map_append]; rfl
      · refine ⟨s3, ?_⟩
        rw [turns_more hr', if_neg hc, List.append_nil]
        exact hD3
    rintro H3 ⟨s3, hD3⟩
    rw [show ((names rs).map V.str).length = rs.length from by unfold names; rw [List.length_map, List.length_map], List.take_length] at hD3
    refine ⟨D, _, rfl, .inl ⟨SqL.of hD3, fun u hu => ?_⟩⟩
    have s4 := (s2.trans s3).trans (Same.new (o := .tup ((turnsL rs xs).map V.str)) hu)
    have e4 : (upd H3 u (.tup ((turnsL rs xs).map V.str))) u = some (.tup ((turnsL rs xs).map V.str)) := upd_same
    have e4' : (upd H3 u (.tup (((names rs).filter (fun z => decide (z ∈ xs))).map V.str))) = upd H3 u (.tup ((turnsL rs xs).map V.str)) := rfl
    rw [e4']
    have num : u ≠ m := fun e => by rw [e, (s2.trans s3) _ _ bm] at hu; cases hu
    generalize upd H3 u (.tup ((turnsL rs xs).map V.str)) = H4 at s4 e4
    refine ⟨_, rfl, m, CM, dx, _, rfl, s4 _ _ bm, M.cl, M.nu, (Nat.lt_of_le_of_lt (Nat.le_trans (putF_len _ _ _) (Nat.succ_le_succ (putF_len _ _ _))) (by decide)), ?_⟩
    obtain ⟨H5, E5⟩ : ∃ Hx, Hx = upd H4 m (.ins CM dx (putF "turns" (.ref u) (putF "default" (.bl d) (putF "tree" (.ref t) [])))) := ⟨_, rfl⟩
    have m5 : H5 m = some (.ins CM dx (putF "turns" (.ref u) (putF "default" (.bl d) (putF "tree" (.ref t) [])))) := by rw [E5]; exact upd_same
    have sb5 : SB m H H5 := fun b o nb e => by rw [E5, upd_ne nb]; exact s4 _ _ (sb b o nb e)
    have u5 : H5 u = some (.tup ((turnsL rs xs).map V.str)) := by rw [E5, upd_ne num]; exact e4
    rw [← E5]
    clear E5
    refine ⟨_, rfl, _, rfl, _, rfl, m, CM, dx, _, _, rfl, m5, M.cl, M.nu, (by rw [lookup_putF, if_pos rfl]), t, u, d, turnsL rs xs, rs, rfl, ht.sbm hm sb5, u5, fun kd H6 hkd s6 e6 => ?_⟩
    refine ⟨_, rfl, m, CM, dx, _, rfl, s6 _ _ m5, M.cl, M.nk, (Nat.lt_of_le_of_lt (Nat.le_trans (putF_len _ _ _) (Nat.succ_le_succ (Nat.le_trans (putF_len _ _ _) (Nat.succ_le_succ (putF_len _ _ _))))) (by decide)), ?_⟩
    have sb7 : SB m H (upd H6 m (.ins CM dx (mf t u kd d))) := fun b o nb e => by rw [upd_ne nb]; exact s6 _ _ (sb5 b o nb e)
    have nkm : kd ≠ m := fun e => by rw [e, m5] at hkd; cases hkd
    exact hq _ sb7 ⟨⟨dx, u, kd, upd_same, by rw [upd_ne num]; exact s6 _ _ u5, by rw [upd_ne nkm]; exact e6⟩, ht.sbm hm sb7, turnsL_norm rs xs⟩
end
end Ts

set_option maxRecDepth 100000
set_option maxHeartbeats 4000000
namespace Ts
open PySem L2
def spMValue (C CM : Addr) : Sp := fun vs H Q _ => ∃ (m t : Addr) (z : Str) (rs : List Row) (d : Bool) (ts : List Str), vs = [.ref m, .str z] ∧ MeanAt C CM H m t rs d ts ∧ (z = ("top" : Str) ∨ z ∈ names rs) ∧ Q (.bl (valOf rs d ts z)) H
def spMLen (C CM : Addr) : Sp := fun vs H Q _ => ∃ (m t : Addr) (rs : List Row) (d : Bool) (ts : List Str), vs = [.ref m] ∧ MeanAt C CM H m t rs d ts ∧ ts.length ≤ 1000 ∧ Q (.int ts.length) H
/-- what the turned boxes cost -/
def costOf (rs : List Row) (ts : List Str) : List Int := ts.map fun z => (((rowOf rs z).bind (·.pr)).getD 0)
def spMPrice (C CM : Addr) : Sp := fun vs H Q _ => ∃ (m t : Addr) (rs : List Row) (d : Bool) (ts : List Str), vs = [.ref m] ∧ MeanAt C CM H m t rs d ts ∧ ts.length ≤ 1000 ∧ (∀ z ∈ ts, Free rs z) ∧ ∀ H', Same H H' → Q (.int (costOf rs ts).sum) H'
section
variable {P : Program} {w : World} {K : PySem.W.Frag} {mg : Str → Option Value} {base : Heap} {C CM : Addr}
theorem sc_M_value : FnScope ["self", "box"] ["self", "box"] (defScope s_Meaning_value) := ⟨rfl, rfl, rfl, by decide +kernel, rfl, by decide +kernel, by decide +kernel⟩
theorem ok_M_value {f : Addr} {fd : FuncData} (F : Fun K "value" "Meaning.value" s_Meaning_value f fd) (M : TxM K mg CM) (Dp : DefAt K mg "check_place" s_check_place ["tree", "thing"]) (Gp : FnOk P w K mg base CX0 4 Dp.f Dp.fd ["tree", "thing"] (spPlace C)) : FnOk P w K mg base CX0 5 f fd ["self", "box"] (spMValue C CM) := by
  refine F.ok sc_M_value (fun vs H Q E h => ?_) (fun cdv A outer s H vs Q E hr h => ?_)
  · obtain ⟨m, t, z, rs, d, ts, rfl, _⟩ := h
    rfl
  · obtain ⟨m, t, z, rs, d, ts, rfl, hm, hz, hq⟩ := h
    have hu := hu_of hr
    obtain ⟨dx, u, k, h1, h2, h3⟩ := hm.ex
    refine ⟨_, pss_cons (ps_expr (pe_call Gp hr rfl Dp.g Dp.F.kp Dp.b .nil pass0 (pa_cons (pe_fld (pv 0) rfl) (pa_cons (pv 1) pa_nil)))) (pss_one (ps_ret (pe_dget hu (pe_fld (pv 0) rfl) (pv 1) (fun _ _ => rfl)))), ?_⟩
    have dg := DGet.k (k := Sum.inr z) h3
    rw [valV_kvM hm.tree.val d ts (hz.elim .inl fun h => by
      by_cases e : z = ("top" : Str)
      · exact .inl e
      · exact .inr ⟨e, h⟩)] at dg
    exact ⟨_, rfl, m, CM, dx, _, _, rfl, h1, M.cl, M.nt, mf_t _ _ _ _, _, rfl, t, z, rs, rfl, hm.tree, hz, _, rfl, m, CM, dx, _, _, rfl, h1, M.cl, M.nk, mf_k _ _ _ _, _, rfl, k, _, rfl, dg, hq⟩
theorem sc_M_len : FnScope ["self"] ["self"] (defScope s_Meaning_len) := ⟨rfl, rfl, rfl, by decide +kernel, rfl, by decide +kernel, by decide +kernel⟩
theorem ok_M_len {f : Addr} {fd : FuncData} (F : Fun K "__len__" "Meaning.__len__" s_Meaning_len f fd) (B : TxB mg) (M : TxM K mg CM) : FnOk P w K mg base CX0 2 f fd ["self"] (spMLen C CM) := by
  refine F.ok sc_M_len (fun vs H Q E h => ?_) (fun cdv A outer s H vs Q E hr h => ?_)
  · obtain ⟨m, t, rs, d, ts, rfl, _⟩ := h
    rfl
  · obtain ⟨m, t, rs, d, ts, rfl, hm, hl, hq⟩ := h
    obtain ⟨dx, u, k, h1, h2, h3⟩ := hm.ex
    refine ⟨_, pss_one (ps_ret (pe_callB call_len_seq (by rfl) B.len PySem.boot_len (pa_cons (pe_fld (pv 0) rfl) pa_nil))), ?_⟩
    refine ⟨_, rfl, m, CM, dx, _, _, rfl, h1, M.cl, M.nu, mf_u _ _ _ _, u, _, rfl, .inr (sqT h2), ?_⟩
    rw [List.length_map]
    exact hq
end
end Ts

set_option maxRecDepth 100000
set_option maxHeartbeats 4000000
namespace Ts
open PySem L2
/-! ### lists of texts as data -/
theorem strs_dpAll {K : PySem.W.Frag} {H : Hp} : ∀ l : List Str, DpAll K H (l.map V.str) (l.map PyData.str)
  | [] => .nil
  | x :: l => .cons (.str x) (strs_dpAll l)
theorem strs_dp {K : PySem.W.Frag} {H : Hp} {a : Addr} {l : List Str} (h : H a = some (.lst (l.map V.str))) : Dp K H (.ref a) (.list (l.map PyData.str)) := .lst (SqL.of h) (strs_dpAll l)
theorem strs_eqv : ∀ a b : List Str, PyData.eqvAll (a.map PyData.str) (b.map PyData.str) = decide (a = b)
  | [], [] => by simp [PyData.eqvAll]
  | [], _ :: _ => by simp [PyData.eqvAll]
  | _ :: _, [] => by simp [PyData.eqvAll]
  | x :: a, y :: b => by
    simp only [List.map_cons, PyData.eqvAll, PyData.eqv, str_beq, strs_eqv a b]
    by_cases h1 : x = y <;> by_cases h2 : a = b <;> simp [h1, h2]
theorem strs_same (l : List Str) : PyData.eqv (.list (l.map PyData.str)) (.list (l.map PyData.str)) = true := by
  simp only [PyData.eqv]
  rw [strs_eqv]
  exact decide_eq_true rfl
theorem strs_lay : ∀ l : List Str, (∀ x ∈ l, PyData.strOk x = true) → PyData.canLayAll0 (l.map PyData.str) = true
  | [], _ => by simp [PyData.canLayAll0]
  | x :: l, h => by
    simp only [List.map_cons, PyData.canLayAll0, PyData.canLay0, h x (List.mem_cons_self ..), strs_lay l (fun q hq => h q (List.mem_cons_of_mem _ hq)), Bool.and_self]
theorem strs_depth : ∀ l : List Str, PyData.depthAll (l.map PyData.str) = 0
  | [] => by simp [PyData.depthAll]
  | x :: l => by simp only [List.map_cons, PyData.depthAll, PyData.depth, strs_depth l]; rfl
theorem shaped_strs {l : List Str} (h : ∀ x ∈ l, PyData.strOk x = true) : SeqAt.shaped (.list (l.map PyData.str)) = true := by
  unfold SeqAt.shaped
  rw [Bool.and_eq_true]
  refine ⟨by simp only [PyData.canLay0]; exact strs_lay l h, decide_eq_true ?_⟩
  simp only [PyData.depth, strs_depth]
  omega
theorem names_ok {rs : List Row} (h : Valid rs) : ∀ x ∈ names rs, PyData.strOk x = true := fun x hx => by
  obtain ⟨r, hr, rfl⟩ := List.mem_map.mp hx
  exact (h.ok r hr).n
theorem inside_ok {rs : List Row} (h : Valid rs) (z : Str) : ∀ x ∈ insideL rs z, PyData.strOk x = true := fun x hx => by
  obtain ⟨r, hr, rfl⟩ := List.mem_map.mp hx
  exact (h.ok r (List.mem_filter.mp hr).1).n
theorem below_ok {rs : List Row} (h : Valid rs) (z : Str) : ∀ x ∈ belowL rs z, PyData.strOk x = true := fun x hx => by
  obtain ⟨r, hr, rfl⟩ := List.mem_map.mp hx
  exact (h.ok r (List.mem_filter.mp hr).1).n
theorem lst_same {rs : List Row} : PyData.eqv (.list (rs.map rowD)) (.list (rs.map rowD)) = true := by
  simp only [PyData.eqv]
  rw [rows_eqv]
  exact decide_eq_true rfl
def told (r : Row) : PyData := .tuple [.str r.fo, .str r.ki, prD r.pr]
theorem told_same (r : Row) : PyData.eqv (told r) (told r) = true := by
  simp [told, PyData.eqv, PyData.eqvAll, prD_eqv]
theorem told_shaped {r : Row} (h : RowOk r) : SeqAt.shaped (told r) = true := by
  obtain ⟨h1, h2, h3⟩ := h
  obtain ⟨n, f, k, p⟩ := r
  unfold SeqAt.shaped
  cases p <;> simp_all [told, prD, PyData.canLay0, PyData.canLayAll0, PyData.depth, PyData.depthAll]
end Ts

set_option maxRecDepth 100000
set_option maxHeartbeats 4000000
namespace Ts
open PySem L2
theorem shaped_strsT {l : List Str} (h : ∀ x ∈ l, PyData.strOk x = true) : SeqAt.shaped (.tuple (l.map PyData.str)) = true := by
  unfold SeqAt.shaped
  rw [Bool.and_eq_true]
  refine ⟨by simp only [PyData.canLay0]; exact strs_lay l h, decide_eq_true ?_⟩
  simp only [PyData.depth, strs_depth]
  omega
theorem nfM {K : PySem.W.Frag} {C : Addr} : PySem.W.notFirst K C (.ref C) = true := by simp [PySem.W.notFirst]
theorem MeanAt.ok {C CM : Addr} {H : Hp} {m t : Addr} {rs : List Row} {d : Bool} {ts : List Str} (h : MeanAt C CM H m t rs d ts) : ∀ x ∈ ts, PyData.strOk x = true := fun x hx => names_ok h.tree.val x (h.sub x hx)
def spMEq (K : PySem.W.Frag) (C CM : Addr) : Sp := fun vs H Q _ => ∃ (m t : Addr) (x : V) (rs : List Row) (d : Bool) (ts : List Str), vs = [.ref m, x] ∧ MeanAt C CM H m t rs d ts ∧
  ((∃ (m2 t2 : Addr) (rs2 : List Row) (d2 : Bool) (ts2 : List Str), x = .ref m2 ∧ MeanAt C CM H m2 t2 rs2 d2 ts2 ∧ Q (.bl (decide (rs = rs2) && (decide (d = d2) && decide (ts = ts2)))) H) ∨ (Other K H x (.ref CM) ∧ Q (.bl false) H))
def spMContains (K : PySem.W.Frag) (C CM : Addr) : Sp := fun vs H Q _ => ∃ (m t : Addr) (x : V) (rs : List Row) (d : Bool) (ts : List Str), vs = [.ref m, x] ∧ MeanAt C CM H m t rs d ts ∧
  ((∃ z : Str, x = .str z ∧ Q (.bl (decide (z = ("top" : Str) ∨ z ∈ names rs) && valOf rs d ts z)) H) ∨ (Other K H x (.type "str") ∧ Q (.bl false) H))
section
variable {P : Program} {w : World} {K : PySem.W.Frag} {mg : Str → Option Value} {base : Heap} {C CM : Addr}
theorem sc_M_eq : FnScope ["self", "other"] ["self", "other"] (defScope s_Meaning_eq) := ⟨rfl, rfl, rfl, by decide +kernel, rfl, by decide +kernel, by decide +kernel⟩
theorem ok_M_eq {f : Addr} {fd : FuncData} (F : Fun K "__eq__" "Meaning.__eq__" s_Meaning_eq f fd) (B : TxB mg) (M : TxM K mg CM) (I : C8.InsC K CM)
    (mE : MethAt K C "__eq__" "Tree.__eq__" s_Tree_eq ["self", "other"]) (GE : FnOk P w K mg base CX0 2 mE.f mE.fd ["self", "other"] (spEqT K C)) : FnOk P w K mg base CX0 3 f fd ["self", "other"] (spMEq K C CM) := by
  refine F.ok sc_M_eq (fun vs H Q E h => ?_) (fun cdv A outer s H vs Q E hr h => ?_)
  · obtain ⟨m, t, x, rs, d, ts, rfl, _⟩ := h
    rfl
  · obtain ⟨m, t, x, rs, d, ts, rfl, hm, h⟩ := h
    obtain ⟨dx, u, k, h1, h2, h3⟩ := hm.ex
    refine ⟨_, pss_one (ps_ret (pe_and (pe_callB call_isi (by rfl) B.isinstance (by decide +kernel) (pa_cons (pv 1) (pa_cons (pe_glob (by rfl) M.g (v := .ref CM) rfl) pa_nil)))
      (pe_and (pe_cmpR (op_eqC GE mE.m hr mE.b pass0) (pe_fld (pv 0) rfl) (pe_fld (pv 1) rfl) (nomark _))
      (pe_and (pe_cmpR op_eq (pe_fld (pv 0) rfl) (pe_fld (pv 1) rfl) (nomark _))
      (pe_one (pe_cmpR (op_eqD (by have := hr.units; exact this)) (pe_fld (pv 0) rfl) (pe_fld (pv 1) rfl) (nomark _))))))), ?_⟩
    rcases h with ⟨m2, t2, rs2, d2, ts2, rfl, hm2, hq⟩ | ⟨⟨ty, hty, hk⟩, hq⟩
    · obtain ⟨dx', u', k', g1, g2, g3⟩ := hm2.ex
      obtain ⟨tx, _, _, _, _, _, t1, _⟩ := id hm.tree.ex
      obtain ⟨tx2, _, _, _, _, _, t3, _⟩ := id hm2.tree.ex
      refine ⟨_, rfl, _, _, _, _, true, rfl, .own CM, .base (.ins g1 I.cl I.ha I.hn I.htk I.hm), I.me, _, rfl, iteT ?_⟩
      refine ⟨_, rfl, m, CM, dx, _, _, rfl, h1, M.cl, M.nt, mf_t _ _ _ _, _, rfl, m2, CM, dx', _, _, rfl, g1, M.cl, M.nt, mf_t _ _ _ _, t, tx, _, .ref C, rfl, t1, .ins t3, nfM, t, .ref t2, rs, rfl, hm.tree, .inl ⟨t2, rs2, rfl, hm2.tree, ?_⟩⟩
      refine ⟨_, rfl, _, rfl, ?_⟩
      refine ite2 (fun hc => ?_) (fun hc => ?_)
      · have e1 : decide (rs = rs2) = true := hc
        rw [e1, Bool.true_and] at hq
        refine ⟨_, rfl, m, CM, dx, _, _, rfl, h1, M.cl, M.nd, mf_d _ _ _ _, _, rfl, m2, CM, dx', _, _, rfl, g1, M.cl, M.nd, mf_d _ _ _ _, rfl, _, rfl, ?_⟩
        have e2 : decide (V.bl d = V.bl d2) = decide (d = d2) := by cases d <;> cases d2 <;> rfl
        rw [e2]
        refine ite2 (fun hd => ?_) (fun hd => ?_)
        · rw [hd, Bool.true_and] at hq
          refine ⟨_, rfl, m, CM, dx, _, _, rfl, h1, M.cl, M.nu, mf_u _ _ _ _, _, rfl, m2, CM, dx', _, _, rfl, g1, M.cl, M.nu, mf_u _ _ _ _, _, _, .tup (sqT h2) (strs_dpAll ts), .tup (sqT g2) (strs_dpAll ts2), shaped_strsT hm.ok, shaped_strsT hm2.ok, ?_⟩
          have e3 : PyData.eqv (.tuple (ts.map PyData.str)) (.tuple (ts2.map PyData.str)) = decide (ts = ts2) := by
            simp only [PyData.eqv]
            exact strs_eqv ts ts2
          rw [e3]
          exact hq
        · have e3 : decide (d = d2) = false := by simpa using hd
          rw [e3, Bool.false_and] at hq
          exact hq
      · have e1 : decide (rs = rs2) = false := by simpa using hc
        rw [e1, Bool.false_and] at hq
        exact hq
    · exact ⟨_, rfl, _, _, _, _, false, rfl, .own CM, hty, hk, _, rfl, iteF hq⟩
theorem sc_M_contains : FnScope ["self", "x"] ["self", "x"] (defScope s_Meaning_contains) := ⟨rfl, rfl, rfl, by decide +kernel, rfl, by decide +kernel, by decide +kernel⟩
theorem ok_M_contains {f : Addr} {fd : FuncData} (F : Fun K "__contains__" "Meaning.__contains__" s_Meaning_contains f fd) (B : TxB mg) (M : TxM K mg CM) : FnOk P w K mg base CX0 2 f fd ["self", "x"] (spMContains K C CM) := by
  refine F.ok sc_M_contains (fun vs H Q E h => ?_) (fun cdv A outer s H vs Q E hr h => ?_)
  · obtain ⟨m, t, x, rs, d, ts, rfl, _⟩ := h
    rfl
  · obtain ⟨m, t, x, rs, d, ts, rfl, hm, h⟩ := h
    have hu := hu_of hr
    obtain ⟨dx, u, k, h1, h2, h3⟩ := hm.ex
    refine ⟨_, pss_one (ps_ret (pe_and (pe_callB call_isi (by rfl) B.isinstance (by decide +kernel) (pa_cons (pv 1) (pa_cons (pe_bltn (by rfl) B.str (by decide +kernel) (v := .ty "str") rfl) pa_nil))) (pe_one (pe_dget2 hu (pe_fld (pv 0) rfl) (pv 1) pe_bl (by constructor <;> intros <;> rfl))))), ?_⟩
    rcases h with ⟨z, rfl, hq⟩ | ⟨⟨ty, hty, hk⟩, hq⟩
    · refine ⟨_, rfl, _, _, _, _, true, rfl, .ty "str", .base (.str z), kit_ty (by decide +kernel), _, rfl, iteT ?_⟩
      have dg := DGet.k (k := Sum.inr z) h3
      refine ⟨_, rfl, m, CM, dx, _, _, rfl, h1, M.cl, M.nk, mf_k _ _ _ _, k, rfl, .inl ⟨_, .inl h3⟩, _, rfl, _, dg, ?_⟩
      by_cases e : z = ("top" : Str) ∨ z ∈ names rs
      · rw [valV_kvM hm.tree.val d ts (by
          by_cases e1 : z = ("top" : Str)
          · exact .inl e1
          · exact .inr ⟨e1, e.resolve_left e1⟩)]
        rw [decide_eq_true e, Bool.true_and] at hq
        exact hq
      · have en : valV (kvM rs d ts rs) (.inr z : Key) = none := by
          show valV ((.inr ("top" : Str), .bl d) :: kvF (fun r => .bl (valOf rs d ts r.nm)) rs) (.inr z : Key) = none
          rw [valV_neg (fun q => e (.inl (Sum.inr.inj q).symm)), valV_kvF, find_none (fun h => e (.inr h))]; rfl
        rw [en]
        rw [decide_eq_false e, Bool.false_and] at hq
        exact hq
    · exact ⟨_, rfl, _, _, _, _, false, rfl, .ty "str", hty, hk, _, rfl, iteF hq⟩
end
end Ts

set_option maxRecDepth 100000
set_option maxHeartbeats 4000000
namespace Ts
open PySem L2
/-! ### iter(tuple), and a walk over an object whose `__iter__` hands it on -/
/-- at it an iterator over the tuple at l, at its start -/
def ItT (l it : Addr) : HO := .ext fun h => h.IsTupleIter it l 0
theorem itT_ok {P : Program} {w : World} {H : Hp} {h : Heap} {l it : Addr} (e : h.IsTupleIter it l 0) : ObjOk P w H h it (ItT l it) := by
  obtain ⟨o, ho, hc, hd⟩ := id e
  exact ⟨e, ⟨o, ho⟩, fun g1 g2 q kk => by obtain ⟨o2, ho2, r2⟩ := q; exact ⟨o2, kk _ ho2, r2⟩⟩
def rIterT (K : PySem.W.Frag) (n : Nat) : List V → Hp → VK → Prop := fun xs H Q => ∃ (l : Addr) (zs : List V), xs = [.ref l] ∧ SqT K H l zs ∧ ∀ it, H it = Option.none → n ≤ it → Q (.ref it) (upd H it (ItT l it))
section
variable {X : Cx}
theorem call_iterT : CallR X (.builtin "iter") (rIterT X.K X.s_0.heap.objs.size) := by
  intro pins s σ H xs us Q I r hh
  obtain ⟨l, zs, rfl, hsq, hQ⟩ := hh
  obtain ⟨u, rfl, ru⟩ := vals1 r
  cases ru
  obtain ⟨its, rv, pl, hz⟩ := I.tuple hsq
  have ht : s.heap.IsTuple l its.toArray := pl
  refine Calls.call_function_entry (by decide +kernel) (by decide +kernel) PySem.W.kdk_entry_iter (PySem.W.kdk_args_iter _) ?_; unfold Builtin.«iter»
  refine wpAny_bind (m := someArgs "iter" 1 2 _) (wpAny_of_eq (a := [Value.ref l]) (by first | rfl | kernel_rfl!) ?_); show wpAny _ _ (pyIter (.ref l) >>= _) _ _ _
  refine wpAny_bind (wpAny_pyIter_tuple ht (wpAny_pure ⟨_, rfl, ?_⟩))
  exact ⟨.ref s.heap.objs.size, _, I.laid (t' := s.toks) (fun b u e => Heap.get?_push_of_some _ e) (Nat.le_refl _) (itT_ok ⟨_, Heap.get?_push_size _ rfl, rfl, rfl⟩), rfl, hQ _ (I.hok.fresh (Nat.le_refl _)) I.sz⟩
end
/-- a def that may say how young its answer is: sp knows the size of the memory at the call -/
def FnY (P : Program) (w : World) (K : PySem.W.Frag) (mg : Str → Option Value) (base : Heap) (CX : CXT) (k : Nat) (f : Addr) (ps : List Str) (sp : Nat → Sp) : Prop :=
  (∀ n vs H Q E, sp n vs H Q E → vs.length = ps.length) ∧ ∀ (A : Around) (outer : List Env) (s : Shared) (H : Hp) (us : List Value) (vs : List V) (Q : VK) (E : XK), Room k A → Env0 P w K mg base A outer s H → Vals vs us → sp s.heap.objs.size vs H Q E →
    codeAny (model P w) A (.call (.ref f) ⟨us, []⟩) (CR CX outer P w H s Q E) s
theorem fn_young {CX : CXT} {P : Program} {w : World} {K : PySem.W.Frag} {mg : Str → Option Value} {base : Heap} {k : Nat} {f : Addr} {fd : FuncData} {x qual : Str} {st : Stmt} {N ps : List Str} {sp : Nat → Sp} (F : Fun K x qual st f fd) (S : FnScope N ps (defScope st)) (bd : Binds K fd ps [])
    (len : ∀ n vs H Q E, sp n vs H Q E → vs.length = ps.length)
    (body : ∀ (cdv : Value) (A : Around) (outer : List Env) (s : Shared) (H : Hp) (vs : List V) (Q : VK) (E : XK), Room k (A.deeper (PyProof.Rows.envOfC qual (defScope st) s.heap.objs.size f cdv)) → sp s.heap.objs.size vs H Q E →
      ∃ t, PSs (cxOf CX P w K mg base N qual (defScope st) f cdv A outer s H E) (defBody st) t ∧ t { nx := fun _ H' => Q .non H', rt := Q } (start N vs) H) : FnY P w K mg base CX (k + 1) f ps sp := by
  refine ⟨len, fun A outer s H us vs Q E rm en rv want => ?_⟩
  obtain ⟨oc, od, kV, doc, pm, an, cdv, ct, osl, rfl, look, code⟩ := F.ex
  have lv := len _ _ _ _ _ want
  have KI : K.In s.heap := en.mod.kin.keeps fun b o hb => (en.bs b o hb).1
  have nolim : s.heap.NoLimit := en.mod.nolimit.keeps fun b o hb => (en.bs b o hb).1
  have kinds : ∀ z ∈ ps.zip us, (defScope st).names.lookup z.1 = some .local ∨ ((defScope st).names.lookup z.1 = some .cell ∧ ((cellsFrom (s.heap.objs.size + 1) (defScope st).names []).lookup z.1).isSome = true) := fun ⟨n, v⟩ hz => by
    rcases S.par n (List.of_mem_zip hz).1 with z1 | z1
    · exact .inl z1
    · exact .inr ⟨z1, PySem.W.cellsFrom_some _ _ _ (.inl z1)⟩
  have bt := bd s us KI (by rw [List.append_nil, ← rv.length]; exact lv)
  rw [List.append_nil] at bt
  refine codeAny_call_function rm.depth (KI _ _ look) rfl S.co S.gen rfl (PySem.W.codeRec_of KI code) (bt _ _ _ _ ?_)
  refine wpAny_newFunctionEnv_cells S.kind kinds fun e2 he2 s1 y => ?_
  subst he2
  refine ⟨nolim.keeps y.toInCall.keep, codeAny_func ?_⟩
  obtain ⟨t, tm, tq⟩ := body cdv A outer s H vs Q E (rm.deeper _) want
  have J : Inv (cxOf CX P w K mg base N qual (defScope st) f cdv A outer s H E) [] (start N vs) H s1 := inv_start S rm.hd en lv rv y
  refine wpAny_mono (tm.run [] s1 (start N vs) H _ J tq) (fun fl s2 hs => ?_) fun e3 s2 hs => hs
  have close : ∀ {σ2 : St} {H2 : Hp} {v : V} {u : Value}, Inv (cxOf CX P w K mg base N qual (defScope st) f cdv A outer s H E) [] σ2 H2 s2 → RelV v u → Q v H2 → CE outer P w H s Q u s2 := fun {σ2 H2 v u} J2 r2 q2 => ⟨v, H2, J2.os, J2.bare, J2.base, J2.hok, r2, q2⟩
  cases fl with
  | ret u => obtain ⟨v, σ2, H2, J2, r2, q2⟩ := hs; exact close J2 r2 q2
  | next => obtain ⟨σ2, H2, J2, q2⟩ := hs; exact close (v := V.non) (u := Value.none) J2 rfl q2
  | brk => obtain ⟨_, _, _, q2⟩ := hs; exact False.elim q2
  | cont => obtain ⟨_, _, _, q2⟩ := hs; exact False.elim q2
/-- what such an `__iter__` promises: an iterator over a tuple -/
def spIterT (K : PySem.W.Frag) (C : Addr) (fld : Str) : Nat → Sp := fun n vs H Q _ => ∃ (a dx l : Addr) (fs : List (Str × V)) (zs : List V), vs = [.ref a] ∧ H a = some (.ins C dx fs) ∧ fs.lookup fld = some (.ref l) ∧ SqT K H l zs ∧ ∀ it, H it = Option.none → n ≤ it → Q (.ref it) (upd H it (ItT l it))
def iOwnT (K : PySem.W.Frag) (C : Addr) (fld : Str) (t : TE) : TI := fun σ H R => t σ H fun x H1 => ∃ (a dx l : Addr) (fs : List (Str × V)), x = .ref a ∧ H1 a = some (.ins C dx fs) ∧ fs.lookup fld = some (.ref l) ∧ (∃ zs, SqT K H1 l zs) ∧ R (Itt K l) H1
theorem itT_at {X : Cx} {pins : List (Addr × Obj)} {σ : L2.St} {H : Hp} {s : Shared} {l it : Addr} (I : Inv X pins σ H s) (e : H it = some (ItT l it)) : s.heap.IsTupleIter it l 0 := (I.hok it _ e).1
section
variable {X : Cx} {tg e : Expr} {t : TE} {C f : Addr} {fld : Str} {k : Nat} {ps : List Str}
theorem pi_ownT (he : PE X e t) (F : FnY X.prog X.w X.K X.mg X.base CX0 k f ps (spIterT X.K C fld)) (m : Meth X.K C "__iter__" f) (hr : Room k X.A) : PI X tg e (iOwnT X.K C fld t) := by
  refine ⟨fun pins s σ H R I h => ?_⟩
  refine thn (he.run pins s σ H _ I h) fun v s1 ⟨x, H1, I1, r1, a, dx, l, fs, ex, ha, hf, ⟨zs, hz⟩, q⟩ => ?_
  subst ex
  cases r1
  obtain ⟨mA, J, _⟩ := ins_get I1.hok ha
  obtain ⟨od, J, _⟩ := J.look
  obtain ⟨mm, hF⟩ := I1.fr
  refine PySem.W.owit_iter hF I1.ok.mod.kin J m.at_ m.fn ?_
  refine wpAny_call (codeAny_mono (F.2 X.A X.stack s1 H1 [.ref a] [.ref a] (fun v H2 => ∃ it, v = .ref it ∧ H1 it = Option.none ∧ s1.heap.objs.size ≤ it ∧ H2 = upd H1 it (ItT l it)) E0 hr I1.env0 (.cons (show RelV (.ref a) (.ref a) from rfl) .nil) ⟨a, dx, l, fs, zs, rfl, ha, hf, hz, fun it h0 hn => ⟨it, rfl, h0, hn, rfl⟩⟩) fun r s' hq => ?_)
  cases r with
  | error e => exact hq.elim
  | ok fl =>
    cases fl with
    | next => exact hq.elim
    | brk => exact hq.elim
    | cont => exact hq.elim
    | ret u =>
      obtain ⟨v2, H2, I2, r2, it, ev, h0, hn, eH⟩ := I1.after hq
      subst ev
      subst eH
      cases r2
      have ti := itT_at I2 upd_same
      have I3 : Inv X pins σ (ItX.dropH (upd H1 it (ItT l it)) it) s' := ItX.inv_drop I2 (φ := fun h => h.IsTupleIter it l 0) upd_same
      have fp := ItX.inv_fp I2 upd_same (Nat.le_trans I1.sz hn)
      rw [ItX.dropH_upd h0] at I3 fp
      have fin : PIE X pins σ tg R (.ref it) s' := ⟨it, [it], _, _, H1, rfl, I3, turn_tuple l it, ti, fun b hb => by
        have eb : b = it := by simpa using hb
        rw [eb]; exact fp, q⟩
      exact wpAny_specialOf (name := "__next__") ti.typeIs PySem.F.slot_tuple_iterator_next.lookup fin
end
end Ts

set_option maxRecDepth 100000
set_option maxHeartbeats 4000000
namespace Ts
open PySem L2
/-! ### what a newcomer is worth -/
theorem wayOf_last (rs : List Row) (q : Row) : wayOf (rs ++ [q]) q.nm = wayOf rs q.fo ++ [q.nm] := by
  unfold wayOf
  rw [List.reverse_append]
  show (if q.nm = q.nm then wayR rs.reverse q.fo ++ [q.nm] else wayR rs.reverse q.nm) = _
  rw [if_pos rfl]
theorem wayOf_skip (rs : List Row) (q : Row) {z : Str} (h : q.nm ≠ z) : wayOf (rs ++ [q]) z = wayOf rs z := by
  unfold wayOf
  rw [List.reverse_append]
  show (if q.nm = z then wayR rs.reverse q.fo ++ [z] else wayR rs.reverse z) = _
  rw [if_neg h]
theorem turned_congr {ts us : List Str} : ∀ (l : List Str) (d : Bool), (∀ x ∈ l, x ∈ ts ↔ x ∈ us) → turned d ts l = turned d us l
  | [], _, _ => rfl
  | x :: l, d, h => by
    show turned (if x ∈ ts then !d else d) ts l = turned (if x ∈ us then !d else d) us l
    have e : (if x ∈ ts then !d else d) = (if x ∈ us then !d else d) := by
      by_cases hx : x ∈ ts
      · rw [if_pos hx, if_pos ((h x (List.mem_cons_self ..)).mp hx)]
      · rw [if_neg hx, if_neg fun q => hx ((h x (List.mem_cons_self ..)).mpr q)]
    rw [e]
    exact turned_congr l _ fun y hy => h y (List.mem_cons_of_mem _ hy)
theorem valOf_congr {rs : List Row} {d : Bool} {ts us : List Str} {z : Str} (h : ∀ x ∈ names rs, x ∈ ts ↔ x ∈ us) : valOf rs d ts z = valOf rs d us z :=
  turned_congr _ _ fun x hx => h x (way_mem hx)
theorem mem_turnsL {rs : List Row} {xs : List Str} {x : Str} : x ∈ turnsL rs xs ↔ x ∈ names rs ∧ x ∈ xs := by
  unfold turnsL
  rw [List.mem_filter, decide_eq_true_eq]
theorem names_app (rs qs : List Row) : names (rs ++ qs) = names rs ++ names qs := List.map_append
theorem val_newc {rs : List Row} {q : Row} (d : Bool) {ts : List Str} (h : q.nm ∉ ts) : valOf (rs ++ [q]) d (turnsL (rs ++ [q]) ts) q.nm = valOf rs d ts q.fo := by
  unfold valOf
  rw [wayOf_last, turned_snoc, if_neg fun e => h (mem_turnsL.mp e).2]
  refine turned_congr _ _ fun x hx => ?_
  rw [mem_turnsL, names_app]
  exact ⟨fun e => e.2, fun e => ⟨List.mem_append.mpr (.inl (way_mem hx)), e⟩⟩
theorem filter_of_sub {l : List Str} : ∀ {s : List Str}, s.Sublist l → l.Nodup → l.filter (fun z => decide (z ∈ s)) = s := by
  intro s h
  induction h with
  | slnil => intro _; rfl
  | cons a h ih =>
    intro nd
    rw [List.nodup_cons] at nd
    rw [List.filter_cons_of_neg (by
      rw [decide_eq_true_eq]
      exact fun e => nd.1 (h.subset e))]
    exact ih nd.2
  | cons_cons a h ih =>
    rename_i l1 l2
    intro nd
    rw [List.nodup_cons] at nd
    rw [List.filter_cons_of_pos (by rw [decide_eq_true_eq]; exact List.mem_cons_self ..)]
    have e : l2.filter (fun z => decide (z ∈ a :: l1)) = l2.filter (fun z => decide (z ∈ l1)) := by
      refine List.filter_congr fun z hz => ?_
      have ne : z ≠ a := fun e => nd.1 (e ▸ hz)
      simp [ne]
    rw [e, ih nd.2]
theorem Valid.nodup {rs : List Row} (h : Valid rs) : (names rs).Nodup := by
  unfold names
  rw [List.nodup_iff_pairwise_ne, List.pairwise_iff_getElem]
  intro i j hi hj hij e
  rw [List.length_map] at hi hj
  rw [List.getElem_map, List.getElem_map] at e
  refine (h j rs[j] (List.getElem?_eq_getElem hj)).new (List.mem_map.mpr ⟨rs[i], ?_, e⟩)
  exact List.mem_take_iff_getElem.mpr ⟨i, by omega, rfl⟩
theorem turnsL_sub {rs : List Row} (h : Valid rs) {ts : List Str} (s : ts.Sublist (names rs)) : turnsL rs ts = ts := filter_of_sub s h.nodup
theorem turnsL_congr {rs : List Row} {xs ys : List Str} (h : ∀ x, x ∈ xs ↔ x ∈ ys) : turnsL rs xs = turnsL rs ys := by
  unfold turnsL
  refine List.filter_congr fun z _ => ?_
  rw [decide_eq_decide]
  exact h z
/-! ### a dict of values, as data -/
def kvD (b : Str × Bool) : PyData := .tuple [.str b.1, .bool b.2]
/-- the items of the values -/
def itemsM (rs : List Row) (d : Bool) (ts : List Str) : List (Str × Bool) := (("top" : Str), d) :: rs.map fun r => (r.nm, valOf rs d ts r.nm)
theorem kvM_items (rs : List Row) (d : Bool) (ts : List Str) : kvM rs d ts rs = (itemsM rs d ts).map fun q => ((.inr q.1 : Key), V.bl q.2) := by
  unfold kvM itemsM kvF
  rw [List.map_cons, List.map_map]
  rfl
theorem items_dp {K : PySem.W.Frag} {H : Hp} : ∀ {qs : List (Str × Bool)} {ts : List Addr}, Paired (fun (t : Addr) (q : Key × V) => H t = some (.tup [kV q.1, q.2])) ts (qs.map fun q => ((.inr q.1 : Key), V.bl q.2)) → DpAll K H (ts.map V.ref) (qs.map kvD)
  | [], [], _ => .nil
  | [], _ :: _, h => by cases h
  | _ :: _, [], h => by cases h
  | q :: qs, t :: ts, h => by
    cases h with
    | cons h1 h2 => exact .cons (.tup (sqT h1) (.cons (.str _) (.cons (.bl _) .nil))) (items_dp h2)
theorem items_lay : ∀ (qs : List (Str × Bool)), (∀ q ∈ qs, PyData.strOk q.1 = true) → PyData.canLayAll0 (qs.map kvD) = true
  | [], _ => by simp [PyData.canLayAll0]
  | q :: qs, h => by
    have h1 := h q (List.mem_cons_self ..)
    simp [List.map_cons, kvD, PyData.canLayAll0, PyData.canLay0, h1, items_lay qs (fun x hx => h x (List.mem_cons_of_mem _ hx))]
theorem items_depth : ∀ (qs : List (Str × Bool)), PyData.depthAll (qs.map kvD) ≤ 1
  | [] => by simp [PyData.depthAll]
  | q :: qs => by
    have ih := items_depth qs
    simp only [List.map_cons, kvD, PyData.depthAll, PyData.depth]
    omega
theorem shaped_items {qs : List (Str × Bool)} (h : ∀ q ∈ qs, PyData.strOk q.1 = true) : SeqAt.shaped (.list (qs.map kvD)) = true := by
  have q := items_depth qs
  unfold SeqAt.shaped
  rw [Bool.and_eq_true]
  refine ⟨by simp only [PyData.canLay0]; exact items_lay qs h, decide_eq_true ?_⟩
  simp only [PyData.depth]
  omega
theorem items_ok {rs : List Row} (h : Valid rs) (d : Bool) (ts : List Str) : ∀ q ∈ itemsM rs d ts, PyData.strOk q.1 = true := by
  intro q hq
  rcases List.mem_cons.mp hq with e | hq
  · rw [e]; exact top_ok
  · obtain ⟨r, hr, rfl⟩ := List.mem_map.mp hq
    exact names_ok h _ (List.mem_map.mpr ⟨r, hr, rfl⟩)
theorem items_same : ∀ (qs : List (Str × Bool)), PyData.eqvAll (qs.map kvD) (qs.map kvD) = true
  | [] => by simp [PyData.eqvAll]
  | q :: qs => by
    simp [List.map_cons, kvD, PyData.eqvAll, PyData.eqv, items_same qs]
section
variable {P : Program} {w : World} {K : PySem.W.Frag} {mg : Str → Option Value} {base : Heap} {C CM : Addr}
theorem sc_M_iter : FnScope ["self"] ["self"] (defScope s_Meaning_iter) := ⟨rfl, rfl, rfl, by decide +kernel, rfl, by decide +kernel, by decide +kernel⟩
theorem ok_M_iter {f : Addr} {fd : FuncData} (F : Fun K "__iter__" "Meaning.__iter__" s_Meaning_iter f fd) (bd : Binds K fd ["self"] []) (hI : mg "iter" = none) (M : TxM K mg CM) : FnY P w K mg base CX0 2 f ["self"] (spIterT K CM "turns") := by
  refine fn_young F sc_M_iter bd (fun n vs H Q E h => ?_) (fun cdv A outer s H vs Q E hr h => ?_)
  · obtain ⟨a, dx, l, fs, zs, rfl, _⟩ := h
    rfl
  · obtain ⟨a, dx, l, fs, zs, rfl, ha, hf, hz, q⟩ := h
    refine ⟨_, pss_one (ps_ret (pe_callB call_iterT (by rfl) hI (by decide +kernel) (pa_cons (pe_fld (pv 0) rfl) pa_nil))), ?_⟩
    exact ⟨_, rfl, a, CM, dx, fs, _, rfl, ha, M.cl, M.nu, hf, l, zs, rfl, hz, q⟩
end
end Ts

set_option maxRecDepth 100000
set_option maxHeartbeats 4000000
namespace Ts
open PySem L2
theorem mk_same {C : Addr} {H H' : Hp} {x dx : Addr} (nx : H x = none) (nd : H dx = none) (sb : SB x (upd (upd H dx (.own x)) x (.ins C dx [])) H') : Same H H' := fun b o e =>
  sb b o (ne_of_none e nx) (by rw [upd_ne (ne_of_none e nx), upd_ne (ne_of_none e nd)]; exact e)
theorem mk_same0 {C : Addr} {H : Hp} {x dx : Addr} (nx : H x = none) (nd : H dx = none) : Same H (upd (upd H dx (.own x)) x (.ins C dx [])) := fun b o e => by
  rw [upd_ne (ne_of_none e nx), upd_ne (ne_of_none e nd)]; exact e
theorem SeqRows.snoc {H : Hp} {as : List Addr} {rs : List Row} {a : Addr} {r : Row} (h : SeqRows H as rs) (ha : H a = some (.tup (rowVs r)) ∨ H a = some (.lst (rowVs r))) : SeqRows H (as ++ [a]) (rs ++ [r]) := by
  refine ⟨by simp [h.len], fun i b q hb hq => ?_⟩
  rcases Nat.lt_or_ge i as.length with hi | hi
  · rw [List.getElem?_append_left hi] at hb
    rw [List.getElem?_append_left (h.len ▸ hi)] at hq
    exact h.at_ i b q hb hq
  · rw [List.getElem?_append_right hi] at hb
    rw [List.getElem?_append_right (h.len ▸ hi)] at hq
    have e0 : i - as.length = 0 := by
      have := (List.getElem?_eq_some_iff.mp hb).1
      simp at this
      omega
    have e1 : i - rs.length = 0 := by rw [← h.len]; exact e0
    rw [e0] at hb
    rw [e1] at hq
    simp at hb hq
    subst hb; subst hq
    exact ha
theorem SeqRows.append {H : Hp} : ∀ {bs : List Addr} {qs : List Row} {as : List Addr} {rs : List Row}, SeqRows H as rs → SeqRows H bs qs → SeqRows H (as ++ bs) (rs ++ qs)
  | [], [], as, rs, h, _ => by simpa using h
  | [], _ :: _, _, _, _, h => by have := h.len; simp at this
  | _ :: _, [], _, _, _, h => by have := h.len; simp at this
  | b :: bs, q :: qs, as, rs, h, h2 => by
    have h3 : SeqRows H bs qs := ⟨by simpa using h2.len, fun i a r ha hr => h2.at_ (i + 1) a r (by simpa using ha) (by simpa using hr)⟩
    have := SeqRows.append (h.snoc (h2.at_ 0 b q rfl rfl)) h3
    simpa using this
theorem rows_at {as : List Addr} {rs : List Row} {H : Hp} (h : RowsAt H as rs) {i : Nat} {x : V} (hx : (as.map V.ref)[i]? = some x) : ∃ ra r, x = .ref ra ∧ as[i]? = some ra ∧ rs[i]? = some r ∧ H ra = some (.tup (rowVs r)) := by
  rw [List.getElem?_map] at hx
  obtain ⟨ra, hra, rfl⟩ := Option.map_eq_some_iff.mp hx
  obtain ⟨r, hr'⟩ : ∃ r, rs[i]? = some r := ⟨rs[i]'(by rw [← h.len]; exact (List.getElem?_eq_some_iff.mp hra).1), List.getElem?_eq_getElem _⟩
  exact ⟨ra, r, rfl, hra, hr', h.at_ i ra r hra hr'⟩
theorem filter_more {rs : List Row} {i : Nat} {r : Row} (h : rs[i]? = some r) (p : Row → Bool) : (rs.take (i + 1)).filter p = (rs.take i).filter p ++ (if p r = true then [r] else []) := by
  rw [take_more h, List.filter_append]
  by_cases e : p r = true
  · rw [if_pos e, List.filter_cons_of_pos e]; rfl
  · rw [if_neg e, List.filter_cons_of_neg e]; rfl
/-- a new list that keeps some of the rows: what stands between two turns -/
structure KeepI (H0 H : Hp) (D : Addr) (qs : List Row) : Prop where
  same : Same H0 H
  ex : ∃ as : List Addr, H D = some (.lst (as.map V.ref)) ∧ RowsAt H as qs
theorem KeepI.nil {H : Hp} {D : Addr} (h : H D = none) : KeepI H (upd H D (.lst [])) D [] := ⟨Same.new h, [], upd_same, RowsAt.nil⟩
theorem KeepI.grow {H0 H H' : Hp} {D ra : Addr} {qs : List Row} {r : Row} (h : KeepI H0 H D qs) (hD : H0 D = none) (s : Same H H') (hr : H' ra = some (.tup (rowVs r))) (hl : qs.length ≤ 900) :
    ∃ acc, H' D = some (.lst acc) ∧ acc.length < sizeLine ∧ KeepI H0 (upd H' D (.lst (acc ++ [V.ref ra]))) D (qs ++ [r]) := by
  obtain ⟨as, h1, h2⟩ := h.ex
  have hD' := s _ _ h1
  have kt : ∀ {b : Addr} {xs : List V}, H' b = some (.tup xs) → (upd H' D (.lst (as.map V.ref ++ [V.ref ra]))) b = some (.tup xs) := fun {b xs} e => by
    rw [upd_ne (fun y => by rw [y, hD'] at e; cases e)]; exact e
  refine ⟨as.map V.ref, hD', small1000 (by rw [List.length_map, h2.len]; omega), fun b o e => ?_, as ++ [ra], by rw [upd_same, List.map_append]; rfl, RowsAt.snoc ⟨h2.len, fun j b q hb hq => kt (s _ _ (h2.at_ j b q hb hq))⟩ (kt hr)⟩
  rw [upd_ne (fun y => by rw [y, hD] at e; cases e)]
  exact s _ _ (h.same _ _ e)
theorem KeepI.on {H0 H H' : Hp} {D : Addr} {qs : List Row} (h : KeepI H0 H D qs) (s : Same H H') : KeepI H0 H' D qs := by
  obtain ⟨as, h1, h2⟩ := h.ex
  exact ⟨h.same.trans s, as, s _ _ h1, h2.same s⟩
def spMore (C : Addr) : Sp := fun vs H Q _ => ∃ (t a : Addr) (rs : List Row) (r : Row), vs = [.ref t, .ref a] ∧ TreeAt C H t rs ∧ Seq H a (rowVs r) ∧ Fits rs r ∧ rs.length + 1 ≤ 100 ∧ ∀ x H', Same H H' → TreeAt C H' x (rs ++ [r]) → Q (.ref x) H'
def spLess (C : Addr) : Sp := fun vs H Q _ => ∃ (t : Addr) (z : Str) (rs : List Row), vs = [.ref t, .str z] ∧ TreeAt C H t rs ∧ z ∈ names rs ∧ ∀ x H', Same H H' → TreeAt C H' x (lessL rs z) → Q (.ref x) H'
def spMoved (C : Addr) : Sp := fun vs H Q _ => ∃ (t : Addr) (m : Row) (fo : Str) (rs : List Row), vs = [.ref t, .str m.nm, .str fo] ∧ TreeAt C H t rs ∧ m ∈ rs ∧ (fo = ("top" : Str) ∨ ∃ q ∈ rs, q.nm = fo ∧ q.ki = ("folder" : Str) ∧ under rs m.nm q = false) ∧ ∀ x H', Same H H' → TreeAt C H' x (movedL rs m fo) → Q (.ref x) H'
section
variable {P : Program} {w : World} {K : PySem.W.Frag} {mg : Str → Option Value} {base : Heap} {C : Addr}
abbrev nTWay : List Str := ["self", "box", "climb"]
theorem sc_Tree_way : FnScope nTWay ["self", "box"] (defScope s_Tree_way) := ⟨rfl, rfl, rfl, by decide +kernel, rfl, by decide +kernel, by decide +kernel⟩
theorem ok_Tree_way {f : Addr} {fd : FuncData} (F : Fun K "way" "Tree.way" s_Tree_way f fd) (Dp : DefAt K mg "check_place" s_check_place ["tree", "thing"]) (Gp : FnOk P w K mg base CX0 4 Dp.f Dp.fd ["tree", "thing"] (spPlace C)) (TC : TxC K mg) (T : TxT K mg C) : FnOk P w K mg base CX0 5 f fd ["self", "box"] (spListOf C wayOf) := by
  obtain ⟨t1, gT⟩ := TC.top
  refine F.ok sc_Tree_way (fun vs H Q E h => ?_) (fun cdv A outer s H vs Q E hr h => ?_)
  · obtain ⟨t, z, rs, rfl, _⟩ := h
    rfl
  · obtain ⟨t, z, rs, rfl, ht, hz, hq⟩ := h
    have hu := hu_of hr
    have hv := ht.val
    obtain ⟨dx, q, f, k, p, qs, h1, h2, h3, h4, h5, h6⟩ := ht.ex
    refine ⟨_, pss_cons (ps_expr (pe_call Gp hr rfl Dp.g Dp.F.kp Dp.b .nil pass0 (pa_cons (pv 0) (pa_cons (pv 1) pa_nil))))
      (pss_cons (ps_set (i := 2) sc_Tree_way.nd rfl (.inl rfl) (pe_lst pa_nil))
      (pss_cons (ps_while PassesOwn.never (pt_cmpR op_ne (pv 1) (pe_glob (by rfl) gT (v := .str ("top" : Str)) ⟨_, rfl⟩) (nomark _))
        (pss_cons (ps_expr (pe_bm PySem.F.plainAttrs_list PySem.F.slot_list_append PySem.F.type_list_append mt_append (pv 2) (pa_cons (pv 1) pa_nil)))
        (pss_one (ps_set (i := 1) sc_Tree_way.nd rfl (.inl rfl) (pe_dget hu (pe_fld (pv 0) rfl) (pv 1) (fun _ _ => rfl))))))
      (pss_one (ps_ret (pe_revL (pv 2)))))), ?_⟩
    refine ⟨_, rfl, _, rfl, t, z, rs, rfl, ht, hz, ?_⟩
    refine ⟨Nat.zero_le _, fun cl hcl => ?_⟩
    refine while_by (fun σ H' => ∃ (z' : Str) (cs : List Str), σ = [some (.ref t), some (.str z'), some (.ref cl)] ∧ (z' = ("top" : Str) ∨ z' ∈ names rs) ∧ Same H H' ∧ H' cl = some (.lst (cs.map V.str)) ∧ wayOf rs z = wayOf rs z' ++ cs.reverse) (muWay rs)
      ⟨z, [], rfl, hz, Same.new hcl, upd_same, by simp⟩ ?_ (fun σ H Q Q' hQ ⟨v, e, sc, k, e2, q⟩ => ⟨v, e, sc, k, e2, hQ _ _ q⟩)
    rintro σ H4 ⟨z', cs, rfl, hz', s4, hc4, ew⟩
    refine ⟨_, rfl, rfl, _, rfl, ?_⟩
    refine ite2 (fun hc => ?_) (fun hc => ?_)
    · have hn : z' ≠ ("top" : Str) := fun e => by rw [e] at hc; simp at hc
      have hin := hz'.resolve_left hn
      obtain ⟨r, e1, hrm, rfl⟩ := rowOf_some hin
      have ws := way_step hv hrm
      have lw := way_len (rs := rs) (z := z)
      have l100 := ht.len
      have lf : cs.length ≤ 100 := by
        have := congrArg List.length ew
        rw [List.length_append, List.length_reverse] at this
        omega
      have tc : t ≠ cl := ne_of_none h1 hcl
      have fc : f ≠ cl := ne_of_none h4 hcl
      refine ⟨_, rfl, .inl ⟨rfl, _, SqL.of hc4⟩, _, rfl, cl, _, _, rfl, rfl, hc4, small1000 (by rw [List.length_map]; omega), ?_⟩
      refine ⟨_, rfl, t, C, dx, _, _, rfl, by rw [upd_ne tc]; exact s4 _ _ h1, T.cl, T.nf, tf_f _ _ _ _, _, rfl, f, .str r.fo, rfl, ?_, ?_⟩
      · have dg := DGet.k (k := Sum.inr r.nm) (show (upd H4 cl (.lst (cs.map V.str ++ [V.str r.nm]))) f = some (.dK (kvF (fun r => .str r.fo) rs)) from by rw [upd_ne fc]; exact s4 _ _ h4)
        rw [valV_kvF, show (rs.find? fun q => decide (q.nm = r.nm)) = some r from e1] at dg
        exact dg
      · refine ⟨⟨r.fo, cs ++ [r.nm], rfl, hv.foAll hrm, fun b o e => ?_, by rw [upd_same, List.map_append]; rfl, ?_⟩, ?_⟩
        · rw [upd_ne (ne_of_none e hcl)]
          exact s4 _ _ e
        · rw [ew, ws]; simp
        · show (wayOf rs r.fo).length < (wayOf rs r.nm).length
          rw [ws]; simp
    · have ht' : z' = ("top" : Str) := Classical.byContradiction fun e => hc (by
        show (!decide (V.str z' = V.str ("top" : Str))) = true
        rw [decide_eq_false (fun q => e (V.str.inj q))]; rfl)
      refine ⟨_, rfl, cl, _, rfl, SqL.of hc4, fun D hD => ?_⟩
      refine hq D _ (s4.free hD) (s4.trans (Same.new hD)) ?_
      rw [upd_same, ew, ht', way_top hv, List.nil_append, List.map_reverse]
end
end Ts

set_option maxRecDepth 100000
set_option maxHeartbeats 4000000
namespace Ts
open PySem L2
/-! ### making trees and meanings, as a caller reads it -/
theorem mean_made {K : PySem.W.Frag} {C CM : Addr} {Q : VK} {H : Hp} {t h : Addr} {d : Bool} {xs : List Str} {rs : List Row} (ht : TreeAt C H t rs) (hx : SqX K H h (xs.map V.str)) (hf : ∀ x ∈ xs, Free rs x)
    (k : ∀ m H', Same H H' → MeanAt C CM H' m t rs d (turnsL rs xs) → Q (.ref m) H') :
    ∀ x dx, H x = none → H dx = none → dx ≠ x → spMeaningInit K C CM (.ref x :: ([.ref t, .bl d, .ref h] ++ [])) (upd (upd H dx (.own x)) x (.ins CM dx [])) (fun v H2 => v = .non ∧ Q (.ref x) H2) E0 :=
  fun x dx nx nd _ => ⟨x, dx, t, h, d, xs, rs, rfl, upd_same, ht.same (mk_same0 nx nd), hx.same (mk_same0 nx nd), hf, fun H' sb m => ⟨rfl, k x H' (mk_same nx nd sb) m⟩⟩
theorem mean_madeD {K : PySem.W.Frag} {C CM : Addr} {Q : VK} {H : Hp} {t h : Addr} {d : Bool} {rs : List Row} (ht : TreeAt C H t rs) (hx : SqT K H h []) 
    (k : ∀ m H', Same H H' → MeanAt C CM H' m t rs d [] → Q (.ref m) H') :
    ∀ x dx, H x = none → H dx = none → dx ≠ x → spMeaningInit K C CM (.ref x :: ([.ref t, .bl d] ++ [.ref h])) (upd (upd H dx (.own x)) x (.ins CM dx [])) (fun v H2 => v = .non ∧ Q (.ref x) H2) E0 :=
  fun x dx nx nd _ => ⟨x, dx, t, h, d, [], rs, rfl, upd_same, ht.same (mk_same0 nx nd), (show SqX K H h [] from .inr hx).same (mk_same0 nx nd), (fun x hx => by cases hx), fun H' sb m => ⟨rfl, k x H' (mk_same nx nd sb) (by
    have e : turnsL rs [] = [] := by unfold turnsL; simp
    rw [e] at m
    exact m)⟩⟩
theorem tree_made {C : Addr} {Q : VK} {H : Hp} {p : Addr} {as : List Addr} {rs : List Row} (hp : Seq H p (as.map V.ref)) (hr : SeqRows H as rs) (hl : rs.length ≤ 100) (hv : Valid rs)
    (k : ∀ t H', Same H H' → TreeAt C H' t rs → Q (.ref t) H') :
    ∀ x dx, H x = none → H dx = none → dx ≠ x → spTreeInit C (.ref x :: ([.ref p] ++ [])) (upd (upd H dx (.own x)) x (.ins C dx [])) (fun v H2 => v = .non ∧ Q (.ref x) H2) E0 :=
  fun x dx nx nd _ => ⟨x, dx, p, as, rs, rfl, upd_same, hp.same (mk_same0 nx nd), hr.same (mk_same0 nx nd), hl, hv, fun H' sb m => ⟨rfl, k x H' (mk_same nx nd sb) m⟩⟩
theorem newz_len : ("newz" : Str).length = 4 := by decide +kernel
theorem newz_low : Low ("newz" : Str) := by unfold Low; decide +kernel
theorem newz_fits {rs : List Row} (hn : ∀ r ∈ rs, r.nm.length ≠ 4) {fo : Str} (hfo : fo = ("top" : Str) ∨ fo ∈ folderNames rs) : Fits rs ⟨"newz", fo, "item", some 1⟩ := by
  refine ⟨⟨.inr newz_len, newz_low⟩, fun e => ?_, fun hm => ?_, hfo.imp id mem_folders, (show ("item" : Str) ∈ kinds3 by decide +kernel), (show (1 : Int) ≤ 1 by decide)⟩
  · have := congrArg Str.length e
    rw [show (Row.nm ⟨"newz", fo, "item", some 1⟩) = ("newz" : Str) from rfl, newz_len, top_len] at this
    exact absurd this (by decide)
  · obtain ⟨r, h1, h2⟩ := List.mem_map.mp hm
    exact hn r h1 (by rw [h2]; exact newz_len)
theorem newz_not {rs : List Row} (hn : ∀ r ∈ rs, r.nm.length ≠ 4) : ("newz" : Str) ∉ names rs := fun hm => by
  obtain ⟨r, h1, h2⟩ := List.mem_map.mp hm
  exact hn r h1 (by rw [h2]; exact newz_len)
theorem rowOf_app {rs qs : List Row} {z : Str} {r : Row} (h : rowOf rs z = some r) : rowOf (rs ++ qs) z = some r := by
  unfold rowOf at h ⊢
  rw [List.find?_append, h]; rfl
theorem Free.app {rs qs : List Row} {z : Str} (h : Free rs z) : Free (rs ++ qs) z := by
  obtain ⟨r, e, hp⟩ := h
  exact ⟨r, rowOf_app e, hp⟩
end Ts

set_option maxRecDepth 100000
set_option maxHeartbeats 4000000
namespace Ts
open PySem L2
/-! ### all but lists is kept -/
def KL (H H' : Hp) : Prop := ∀ b o, H b = some o → (∀ xs, o ≠ .lst xs) → H' b = some o
theorem KL.of {H H' : Hp} (s : Same H H') : KL H H' := fun b o e _ => s b o e
theorem KL.refl (H : Hp) : KL H H := fun _ _ e _ => e
theorem KL.trans {H H1 H2 : Hp} (x : KL H H1) (y : KL H1 H2) : KL H H2 := fun b o e n => y b o (x b o e n) n
theorem KL.upd {H : Hp} {l : Addr} {xs : List V} {o : HO} (h : H l = some (.lst xs)) : KL H (L2.upd H l o) := fun b o e n => by
  rw [upd_ne (fun q => by rw [q, h] at e; exact n _ (Option.some.inj e).symm)]
  exact e
theorem RowsAt.kl {H H' : Hp} {as : List Addr} {rs : List Row} (h : RowsAt H as rs) (s : KL H H') : RowsAt H' as rs := ⟨h.len, fun i a r ha hr => s _ _ (h.at_ i a r ha hr) (fun _ e => nomatch e)⟩
theorem TreeAt.kl {C : Addr} {H H' : Hp} {t : Addr} {rs : List Row} (h : TreeAt C H t rs) (s : KL H H') : TreeAt C H' t rs := by
  obtain ⟨dx, q, f, k, p, qs, h1, h2, h3, h4, h5, h6⟩ := h.ex
  exact ⟨⟨dx, q, f, k, p, qs, s _ _ h1 (fun _ e => nomatch e), s _ _ h2 (fun _ e => nomatch e), h3.kl s, s _ _ h4 (fun _ e => nomatch e), s _ _ h5 (fun _ e => nomatch e), s _ _ h6 (fun _ e => nomatch e)⟩, h.val, h.len⟩
theorem MeanAt.kl {C CM : Addr} {H H' : Hp} {m t : Addr} {rs : List Row} {d : Bool} {ts : List Str} (h : MeanAt C CM H m t rs d ts) (s : KL H H') : MeanAt C CM H' m t rs d ts := by
  obtain ⟨dx, u, k, h1, h2, h3⟩ := h.ex
  exact ⟨⟨dx, u, k, s _ _ h1 (fun _ e => nomatch e), s _ _ h2 (fun _ e => nomatch e), s _ _ h3 (fun _ e => nomatch e)⟩, h.tree.kl s, h.norm⟩
theorem any_falses : ∀ n : Nat, (List.replicate n false).any id = false
  | 0 => rfl
  | n + 1 => by rw [List.replicate_succ, List.any_cons, any_falses n]; rfl
theorem all_trues : ∀ n : Nat, (List.replicate n true).all id = true
  | 0 => rfl
  | n + 1 => by rw [List.replicate_succ, List.all_cons, all_trues n]; rfl
theorem KL.sb {H H' : Hp} {a : Addr} {n : Int} (st : Stm H a n) (s : SB a H H') : KL H H' := fun b o e no => s b o (fun q => by
  obtain ⟨x, y, z, ea, _⟩ := st
  rw [q, ea] at e
  exact no _ (Option.some.inj e).symm) e
theorem RowsL.sbk {H H' : Hp} {a p : Addr} {rs : List Row} {n : Int} (h : RowsL H p rs) (np : p ≠ a) (st : Stm H a n) (s : SB a H H') : RowsL H' p rs := by
  obtain ⟨as, h1, h2⟩ := h.ex
  exact ⟨as, s _ _ np h1, h2.kl (KL.sb st s)⟩
theorem RowsL.upd {H : Hp} {p l : Addr} {xs : List V} {o : HO} {rs : List Row} (h : RowsL H p rs) (np : p ≠ l) (e : H l = some (.lst xs)) : RowsL (L2.upd H l o) p rs := by
  obtain ⟨as, h1, h2⟩ := h.ex
  exact ⟨as, by rw [upd_ne np]; exact h1, h2.kl (KL.upd e)⟩
theorem smb {H H1 H2 : Hp} {a : Addr} (h : Same H H1) (ha : H a = none) (s : SB a H1 H2) : Same H H2 := fun b o e => s b o (ne_of_none e ha) (h b o e)
theorem smu {H H1 : Hp} {a : Addr} {o : HO} (h : Same H H1) (ha : H a = none) : Same H (L2.upd H1 a o) := fun b o e => by
  rw [upd_ne (ne_of_none e ha)]
  exact h b o e
theorem cut_str (ts : List Str) (lo hi : Option Int) : ∃ zs : List Str, cutV (ts.map V.str) lo hi = zs.map V.str ∧ (∀ z ∈ zs, z ∈ ts) ∧ zs.length ≤ ts.length := by
  refine ⟨(ts.drop (HT.sIx (ts.map V.str).length 0 lo)).take (HT.sIx (ts.map V.str).length (ts.map V.str).length hi - HT.sIx (ts.map V.str).length 0 lo), ?_, fun z hz => List.mem_of_mem_drop (List.mem_of_mem_take hz), ?_⟩
  · unfold cutV
    rw [← List.map_drop, ← List.map_take]
  · rw [List.length_take, List.length_drop]; omega
theorem prices_ok : ∀ q ∈ pricesL, PriceOk q := by
  intro q hq
  simp [pricesL] at hq
  rcases hq with rfl | rfl | rfl | rfl | rfl <;> simp [PriceOk]
theorem kinds_ok3 : ∀ k ∈ kindsL, k ∈ kinds3 := by decide +kernel
theorem paired_same {H H' : Hp} (s : Same H H') : ∀ {ts : List Addr} {qs : List (Key × V)}, Paired (fun (t : Addr) (q : Key × V) => H t = some (.tup [kV q.1, q.2])) ts qs → Paired (fun (t : Addr) (q : Key × V) => H' t = some (.tup [kV q.1, q.2])) ts qs
  | _, _, .nil => .nil
  | _, _, .cons h t => .cons (s _ _ h) (paired_same s t)
theorem iteF' {c : Bool} {A B : Prop} (h : c = false) (b : B) : if c = true then A else B := by rw [h]; exact b
theorem kvM_at {rs : List Row} {d : Bool} {ts : List Str} {j : Nat} {k : Key} {v : V} (h : (kvM rs d ts rs)[j]? = some (k, v)) : ∃ z : Str, k = .inr z ∧ (z = ("top" : Str) ∨ z ∈ names rs) := by
  have hm := List.mem_of_getElem? h
  unfold kvM at hm
  rcases List.mem_cons.mp hm with e | hm
  · exact ⟨"top", (Prod.mk.inj e).1, .inl rfl⟩
  · unfold kvF at hm
    obtain ⟨r, hr, e⟩ := List.mem_map.mp hm
    exact ⟨r.nm, (Prod.mk.inj e).1.symm, .inr (List.mem_map.mpr ⟨r, hr, rfl⟩)⟩
theorem valV_kvM' {rs : List Row} (h : Valid rs) (d : Bool) (ts : List Str) {z : Str} (hz : z = ("top" : Str) ∨ z ∈ names rs) : valV (kvM rs d ts rs) (.inr z : Key) = some (.bl (valOf rs d ts z)) :=
  valV_kvM h d ts (by
    by_cases e : z = ("top" : Str)
    · exact .inl e
    · exact .inr ⟨e, hz.resolve_left e⟩)
def spLaw (K : PySem.W.Frag) : Sp := fun vs H Q _ => ∃ (a : Addr) (ns : List Int), vs = [.ref a] ∧ SqL K H a (ns.map V.int) ∧ ns.length ≤ 63 ∧ ∀ H', Q (.bl true) H'
/-- how the class of trees stands to other sorts -/
structure TxN (K : PySem.W.Frag) (C : Addr) : Prop where
  ne : PySem.W.findIn K (.ref C) "__ne__" = some (some (.builtin "object.__ne__"))
  ob : PySem.W.subIn K (.ref C) (.type "object") = some true
theorem nfC {K : PySem.W.Frag} {C : Addr} : PySem.W.notFirst K C (.ref C) = true := by simp [PySem.W.notFirst]
end Ts

set_option maxRecDepth 100000
set_option maxHeartbeats 4000000
namespace Ts
open PySem L2
/-! ### two meanings of one tree -/
/-- the top and the boxes -/
def plc (rs : List Row) : List Str := ("top" : Str) :: names rs
theorem val_all {rs : List Row} (hv : Valid rs) {d d2 : Bool} {ts us : List Str} (h1 : turnsL rs ts = ts) (h2 : turnsL rs us = us) : (∀ z ∈ plc rs, valOf rs d ts z = valOf rs d2 us z) ↔ (d = d2 ∧ ts = us) := by
  constructor
  · intro h
    have hd : d = d2 := by
      have := h ("top" : Str) (List.mem_cons_self ..)
      rw [val_top hv, val_top hv] at this
      exact this
    refine ⟨hd, ?_⟩
    rw [← h1, ← h2]
    unfold turnsL
    refine List.filter_congr fun z hz => ?_
    obtain ⟨r, hr, rfl⟩ := List.mem_map.mp hz
    have e1 := h r.nm (List.mem_cons_of_mem _ hz)
    have e2 := h r.fo (by
      rcases hv.foAll hr with e | e
      · rw [e]; exact List.mem_cons_self ..
      · exact List.mem_cons_of_mem _ e)
    rw [val_step hv d ts hr, val_step hv d2 us hr, e2] at e1
    revert e1
    generalize valOf rs d2 us r.fo = b
    generalize decide (r.nm ∈ ts) = x
    generalize decide (r.nm ∈ us) = y
    cases b <;> cases x <;> cases y <;> simp
  · rintro ⟨rfl, rfl⟩ z _
    rfl
theorem val_norm {rs : List Row} (d : Bool) (us : List Str) (z : Str) : valOf rs d (turnsL rs us) z = valOf rs d us z :=
  valOf_congr fun x hx => by rw [mem_turnsL]; exact ⟨fun e => e.2, fun e => ⟨hx, e⟩⟩
def firstUn (rs : List Row) (d : Bool) (ts : List Str) (d2 : Bool) (us : List Str) : Option Str := (plc rs).find? fun z => decide (valOf rs d ts z ≠ valOf rs d2 us z)
def optS : Option Str → V
  | none => .non
  | some z => .str z
theorem find_at {α : Type} {p : α → Bool} : ∀ {l : List α} {i : Nat} {z : α}, (∀ x ∈ l.take i, p x = false) → l[i]? = some z → p z = true → l.find? p = some z
  | [], i, z, _, h, _ => by simp at h
  | x :: l, 0, z, _, h, hp => by
    have e : x = z := Option.some.inj h
    subst e
    rw [List.find?_cons_of_pos hp]
  | x :: l, i + 1, z, hx, h, hp => by
    have h0 := hx x (by rw [List.take_succ_cons]; exact List.mem_cons_self ..)
    rw [List.find?_cons_of_neg (by rw [h0]; exact Bool.false_ne_true)]
    exact find_at (fun y hy => hx y (by rw [List.take_succ_cons]; exact List.mem_cons_of_mem _ hy)) (by simpa using h) hp
theorem kvM_plc {rs : List Row} {d : Bool} {ts : List Str} {j : Nat} {k : Key} {v : V} (h : (kvM rs d ts rs)[j]? = some (k, v)) : ∃ z : Str, k = .inr z ∧ (plc rs)[j]? = some z := by
  have e : (kvM rs d ts rs).map Prod.fst = (plc rs).map Sum.inr := by
    unfold kvM plc names kvF
    rw [List.map_cons, List.map_cons, List.map_map, List.map_map]
    rfl
  have e2 : ((kvM rs d ts rs).map Prod.fst)[j]? = some k := by rw [List.getElem?_map, h]; rfl
  rw [e, List.getElem?_map] at e2
  obtain ⟨z, hz, e3⟩ := Option.map_eq_some_iff.mp e2
  exact ⟨z, e3.symm, hz⟩
theorem kvM_len (rs : List Row) (d : Bool) (ts : List Str) : (kvM rs d ts rs).length = (plc rs).length := by
  unfold kvM plc names kvF
  simp
theorem mem_plc {rs : List Row} {z : Str} : z ∈ plc rs ↔ z = ("top" : Str) ∨ z ∈ names rs := List.mem_cons
/-! ### two sorted lists of the same texts -/
theorem ltCps_irr : ∀ l : List Nat, PySem.Spec.ltCps l l = false
  | [] => rfl
  | a :: l => by simp [PySem.Spec.ltCps, ltCps_irr l]
theorem ltCps_total : ∀ (a b : List Nat), PySem.Spec.ltCps a b = false → PySem.Spec.ltCps b a = false → a = b
  | [], [], _, _ => rfl
  | [], _ :: _, h, _ => by simp [PySem.Spec.ltCps] at h
  | _ :: _, [], _, h => by simp [PySem.Spec.ltCps] at h
  | x :: a, y :: b, h1, h2 => by
    simp only [PySem.Spec.ltCps, Bool.or_eq_false_iff, decide_eq_false_iff_not, Bool.and_eq_false_iff, beq_eq_false_iff_ne] at h1 h2
    have e : x = y := by omega
    subst e
    rw [ltCps_total a b (h1.2.resolve_left (by simp)) (h2.2.resolve_left (by simp))]
theorem geCps_trans : ∀ (a b c : List Nat), PySem.Spec.ltCps b a = false → PySem.Spec.ltCps c b = false → PySem.Spec.ltCps c a = false
  | [], [], [], _, _ => rfl
  | [], _, _ :: _, _, _ => by simp [PySem.Spec.ltCps]
  | [], _ :: _, [], _, h => by simp [PySem.Spec.ltCps] at h
  | _ :: _, [], _, h, _ => by simp [PySem.Spec.ltCps] at h
  | _ :: _, _ :: _, [], _, h => by simp [PySem.Spec.ltCps] at h
  | x :: a, y :: b, z :: c, h1, h2 => by
    simp only [PySem.Spec.ltCps, Bool.or_eq_false_iff, decide_eq_false_iff_not, Bool.and_eq_false_iff, beq_eq_false_iff_ne] at h1 h2 ⊢
    refine ⟨by omega, ?_⟩
    by_cases e : z = x
    · right
      have e1 : y = x := by omega
      have e2 : z = y := by omega
      exact geCps_trans a b c (h1.2.resolve_left (by simp [e1])) (h2.2.resolve_left (by simp [e2]))
    · left; exact e
theorem pw_of_rising : ∀ (l : List Str) (p : Str), PyProof.Rows.risingS p l = true → (p :: l).Pairwise fun a b => PySem.Spec.ltCps b.cps.toList a.cps.toList = false
  | [], p, _ => by simp
  | x :: l, p, h => by
    have h' : (!PySem.Spec.ltCps x.cps.toList p.cps.toList && PyProof.Rows.risingS x l) = true := h
    rw [Bool.and_eq_true, Bool.not_eq_true'] at h'
    have ih := pw_of_rising l x h'.2
    rw [List.pairwise_cons]
    refine ⟨fun y hy => ?_, ih⟩
    rcases List.mem_cons.mp hy with rfl | hy
    · exact h'.1
    · exact geCps_trans _ _ _ h'.1 (List.rel_of_pairwise_cons ih hy)
theorem pw_of_sorted : ∀ {l : List Str}, PyProof.Rows.sortedS l = true → l.Pairwise fun a b => PySem.Spec.ltCps b.cps.toList a.cps.toList = false
  | [], _ => List.Pairwise.nil
  | x :: l, h => pw_of_rising l x h
theorem str_of_cps {a b : Str} (h : a.cps.toList = b.cps.toList) : a = b := by
  cases a; cases b
  simp only at h
  rw [Str.mk.injEq]
  exact Array.ext' h
theorem sorted_same {xs ys zs ws : List Str} (p1 : xs.Perm zs) (p2 : ys.Perm ws) (s1 : PyProof.Rows.sortedS xs = true) (s2 : PyProof.Rows.sortedS ys = true) : xs = ys ↔ zs.Perm ws := by
  constructor
  · rintro rfl
    exact p1.symm.trans p2
  · intro h
    refine List.Perm.eq_of_pairwise (le := fun a b => PySem.Spec.ltCps b.cps.toList a.cps.toList = false) (fun a b _ _ h1 h2 => str_of_cps (ltCps_total _ _ h2 h1)) (pw_of_sorted s1) (pw_of_sorted s2) ((p1.trans h).trans p2.symm)
/-! ### what newcomers show -/
def newL (rs : List Row) (d : Bool) (ts : List Str) : List Bool := ((("top" : Str) :: folderNames rs).flatMap fun fo => [valOf rs d ts fo, valOf rs d ts fo]) ++ rs.map fun r => valOf rs d ts r.nm
theorem newL_eq {rs : List Row} {d d2 : Bool} {ts us : List Str} : newL rs d ts = newL rs d2 us ↔ ∀ z ∈ plc rs, valOf rs d ts z = valOf rs d2 us z := by
  unfold newL
  constructor
  · intro h
    have hl : ((("top" : Str) :: folderNames rs).flatMap fun fo => [valOf rs d ts fo, valOf rs d ts fo]).length = ((("top" : Str) :: folderNames rs).flatMap fun fo => [valOf rs d2 us fo, valOf rs d2 us fo]).length := by
      simp only [List.length_flatMap]; rfl
    obtain ⟨h1, h2⟩ := List.append_inj h hl
    intro z hz
    rcases mem_plc.mp hz with rfl | hz
    · rw [List.flatMap_cons, List.flatMap_cons] at h1
      have := List.append_inj h1 rfl
      exact (List.cons.inj this.1).1
    · obtain ⟨r, hr, rfl⟩ := List.mem_map.mp hz
      exact List.map_inj_left.mp h2 r hr
  · intro h
    congr 1
    · rw [List.flatMap_def, List.flatMap_def]
      refine congrArg List.flatten (List.map_congr_left fun fo hfo => ?_)
      rw [h fo (by
        rcases List.mem_cons.mp hfo with rfl | hfo
        · exact List.mem_cons_self ..
        · obtain ⟨q, hq, rfl, _⟩ := mem_folders hfo
          exact List.mem_cons_of_mem _ (List.mem_map.mpr ⟨q, hq, rfl⟩))]
    · exact List.map_congr_left fun r hr => h r.nm (List.mem_cons_of_mem _ (List.mem_map.mpr ⟨r, hr, rfl⟩))
theorem bools_dp {K : PySem.W.Frag} {H : Hp} : ∀ l : List Bool, DpAll K H (l.map V.bl) (l.map PyData.bool)
  | [] => .nil
  | x :: l => .cons (.bl x) (bools_dp l)
theorem bools_eqv : ∀ a b : List Bool, PyData.eqvAll (a.map PyData.bool) (b.map PyData.bool) = decide (a = b)
  | [], [] => by simp [PyData.eqvAll]
  | [], _ :: _ => by simp [PyData.eqvAll]
  | _ :: _, [] => by simp [PyData.eqvAll]
  | x :: a, y :: b => by
    simp only [List.map_cons, PyData.eqvAll, PyData.eqv, bools_eqv a b]
    by_cases h : a = b <;> cases x <;> cases y <;> simp [h]
theorem bools_lay : ∀ l : List Bool, PyData.canLayAll0 (l.map PyData.bool) = true
  | [] => by simp [PyData.canLayAll0]
  | x :: l => by simp [PyData.canLayAll0, PyData.canLay0, bools_lay l]
theorem bools_depth : ∀ l : List Bool, PyData.depthAll (l.map PyData.bool) = 0
  | [] => by simp [PyData.depthAll]
  | x :: l => by simp [PyData.depthAll, PyData.depth, bools_depth l]
theorem shaped_bools (l : List Bool) : SeqAt.shaped (.list (l.map PyData.bool)) = true := by
  unfold SeqAt.shaped
  rw [Bool.and_eq_true]
  refine ⟨by simp only [PyData.canLay0]; exact bools_lay l, decide_eq_true ?_⟩
  simp only [PyData.depth, bools_depth]
  omega
end Ts

set_option maxRecDepth 100000
set_option maxHeartbeats 4000000
namespace Ts
open PySem L2
/-! ### an own error class with one field, as it stands -/
structure ErrT (K : PySem.W.Frag) (mg : Str → Option Value) (E : Addr) (nm fn : Str) : Prop where
  O : OexC K E
  X : XfC K E
  nb : PySem.W.findIn K (.ref E) fn = some none
  g : mg nm = some (.ref E)
  te : PySem.W.exmOne K (.ref E) (.ref E) = some true
theorem exm_self {K : PySem.W.Frag} {S : Addr} (h1 : PySem.W.subIn K (.ref S) (.type "BaseException") = some true) (h2 : PySem.W.isClsIn K S = true) (h3 : PySem.W.typeIn K (.ref S) = some (.type "type")) (h4 : PySem.W.subIn K (.ref S) (.ref S) = some true) :
    PySem.W.exmOne K (.ref S) (.ref S) = some true := by
  have e1 : (PySem.W.subIn K (.ref S) (.type "BaseException") == some true) = true := by rw [h1] <;> rfl
  have e2 : ((PySem.W.clsIn K S).isSome && PySem.W.typeIn K (.ref S) == some (.type "type")) = true := by
    have h2' : (PySem.W.clsIn K S).isSome = true := h2
    rw [h2', h3] <;> rfl
  show (if (PySem.W.subIn K (.ref S) (.type "BaseException") == some true) = true then (if ((PySem.W.clsIn K S).isSome && PySem.W.typeIn K (.ref S) == some (.type "type")) = true then PySem.W.subIn K (.ref S) (.ref S) else none) else none) = some true
  rw [if_pos e1, if_pos e2]
  exact h4
/-- an error of the class at S is not what «except D» names -/
theorem exm_other {K : PySem.W.Frag} {S D : Addr} (h1 : PySem.W.subIn K (.ref D) (.type "BaseException") = some true) (h2 : PySem.W.isClsIn K D = true) (h3 : PySem.W.typeIn K (.ref D) = some (.type "type")) (h4 : PySem.W.subIn K (.ref S) (.ref D) = some false) :
    PySem.W.exmOne K (.ref S) (.ref D) = some false := by
  have e1 : (PySem.W.subIn K (.ref D) (.type "BaseException") == some true) = true := by rw [h1] <;> rfl
  have e2 : ((PySem.W.clsIn K D).isSome && PySem.W.typeIn K (.ref D) == some (.type "type")) = true := by
    have h2' : (PySem.W.clsIn K D).isSome = true := h2
    rw [h2', h3] <;> rfl
  show (if (PySem.W.subIn K (.ref D) (.type "BaseException") == some true) = true then (if ((PySem.W.clsIn K D).isSome && PySem.W.typeIn K (.ref D) == some (.type "type")) = true then PySem.W.subIn K (.ref S) (.ref D) else none) else none) = some false
  rw [if_pos e1, if_pos e2]
  exact h4
theorem errAll {K : PySem.W.Frag} {h : Heap} {mg : Str → Option Value} (X : K.In h) (G : h.Ns mainGlobals mg) {E BE f : Addr} {cn fn iq : Str} {st : Stmt} {nm q : Str} {N : Addr} {bs : List Value} {sn : List Str} {sub : List Value} {ab : Bool} {col : Option Bool} {dd : Option Addr} {m0 m1 m2 m3 m5 : Option Value}
    {od an : Option Addr} {sl : Array (Option Value)} {oc kV dc pm cd ct : Value}
    (aC : PySem.W.nsIn K mainGlobals cn = some (some (.ref E)))
    (xL : K.lookup E = some (excClassObj nm q E N bs [.ref BE, .type "ValueError", .type "Exception", .type "BaseException", .type "object"] true sn sub ab col dd m0 m1 m2 m3 m5 "ValueError.__new__"))
    (sa : PySem.W.findIn K (.ref E) "__setattr__" = some (some (.builtin "object.__setattr__"))) (ga : PySem.W.findIn K (.ref E) "__getattribute__" = some (some (.builtin "BaseException.__getattribute__"))) (gg : PySem.W.findIn K (.ref E) "__getattr__" = some none) (nb : PySem.W.findIn K (.ref E) fn = some none)
    (a1 : PySem.W.findIn K (.ref E) "__init__" = some (some (.ref f))) (t1 : PySem.W.typeIn K (.ref f) = some (.type "function"))
    (l1 : K.lookup f = some ⟨oc, od, .func (PySem.W.fnOf "__init__" iq (defArgs st) (defBody st) (defScope st) .none kV dc pm an cd ct), sl⟩) (c1 : PySem.W.codeIn K cd iq = true) (k1 : PySem.W.keepIn K (.ref f) = true)
    (kC : PySem.W.keepIn K (.ref E) = true) (eC : PySem.W.subIn K (.ref E) (.type "BaseException") = some true) (tC : PySem.W.typeIn K (.ref E) = some (.type "type")) (hC : PySem.W.hasDictIn K E = true) (iC : PySem.W.isClsIn K E = true) (sC : PySem.W.subIn K (.ref E) (.ref E) = some true) :
    ErrT K mg E cn fn ∧ ∃ (f : Addr) (fd : FuncData), PySem.W.findIn K (.ref E) "__init__" = some (some (.ref f)) ∧ PySem.W.typeIn K (.ref f) = some (.type "function") ∧ Fun K "__init__" iq st f fd :=
  ⟨⟨⟨⟨nm, q, N, bs, _, sn, sub, ab, col, dd, m0, m1, m2, m3, m5, xL, rfl⟩, sa, eC, tC, kC⟩, ⟨ga, gg, eC, hC⟩, nb, PySem.W.mg_of X G aC, exm_self eC iC tC sC⟩, f, _, a1, t1, fun_mk l1 c1 k1⟩
end Ts

set_option maxRecDepth 100000
set_option maxHeartbeats 4000000
namespace Ts
open PySem L2
/-! ### an own error with one field that its own __init__ stores -/
def spErr1 (CC : Addr) (fn : Str) : Sp := fun vs H Q _ => ∃ (a : Addr) (x : V), vs = [.ref a, x] ∧ H a = some (exo a CC none) ∧ ∀ d, H d = none → d ≠ a → Q .non (upd (upd H d (exd d [(fn, x)])) a (exo a CC (some d)))
section
variable {CC : Addr}
/-- what stands behind a raise: the error's own dict, new -/
theorem rd_err1 {fn : Str} {H1 : Hp} {x : V} {Q : XK} (k : ∀ d, H1 d = none → Q (.ref CC) (some d) (upd H1 d (.xd [(fn, x)]))) : ([x] : List V).length ≤ 1000 ∧ ∀ a, H1 a = none → spErr1 CC fn (.ref a :: ([x] ++ [])) (upd H1 a (exo a CC none)) (fun v H2 => v = .non ∧ ∃ (d : Addr) (fs : List (Str × V)), H2 a = some (exo a CC (some d)) ∧ H2 d = some (exd d fs) ∧ H1 d = none ∧ Q (.ref CC) (some d) (upd (del H2 a) d (.xd fs))) (fun _ _ _ => False) := by
  refine ⟨(by show 1 ≤ 1000; decide), fun a ha => ⟨a, x, rfl, upd_same, fun d hd ne => ⟨rfl, d, [(fn, x)], upd_same, by rw [upd_ne ne]; exact upd_same, by rw [upd_ne ne] at hd; exact hd, ?_⟩⟩⟩
  have hd1 : H1 d = none := by rw [upd_ne ne] at hd; exact hd
  have e : upd (del (upd (upd (upd H1 a (exo a CC none)) d (exd d [(fn, x)])) a (exo a CC (some d))) a) d (.xd [(fn, x)]) = upd H1 d (.xd [(fn, x)]) := by
    funext b
    by_cases q : b = d
    · rw [q, upd_same, upd_same]
    · rw [upd_ne q, upd_ne q]
      unfold del
      by_cases r : b = a
      · rw [if_pos r, r]; exact ha.symm
      · rw [if_neg r, upd_ne r, upd_ne q, upd_ne r]
  rw [e]
  exact k d hd1
end
section
variable {P : Program} {w : World} {K : PySem.W.Frag} {mg : Str → Option Value} {base : Heap}
/-- where nothing is raised, a def that may raise is as one that may not -/
theorem calm {k : Nat} {f : Addr} {fd : FuncData} {ps : List Str} {sp sp' : Sp} (F : FnOk P w K mg base (L2.CX P w) k f fd ps sp) (h : ∀ vs H Q E, sp' vs H Q E → sp vs H Q E0) : FnOk P w K mg base CX0 k f fd ps sp' :=
  ⟨fun vs H Q E q => F.len vs H Q E0 (h _ _ _ _ q), fun A outer s H args us vs Q E hr he hb hv hs => codeAny_mono (F.run A outer s H args us vs Q E0 hr he hb hv (h _ _ _ _ hs)) fun r s' q => by
    cases r with
    | ok f => cases f <;> exact q
    | error e =>
      obtain ⟨_, _, _, _, _, _, _, _, _, _, _, _, z⟩ := q
      exact z.elim⟩
end
end Ts

set_option maxRecDepth 100000
set_option maxHeartbeats 4000000
namespace Ts
open PySem L2
section
variable {P : Program} {w : World} {K : PySem.W.Frag} {mg : Str → Option Value} {base : Heap} {CC : Addr}
theorem sc_Locked_init : FnScope ["self", "box"] ["self", "box"] (defScope s_Locked_init) := ⟨rfl, rfl, rfl, by decide +kernel, rfl, by decide +kernel, by decide +kernel⟩
theorem ok_Locked_init {f : Addr} {fd : FuncData} (F : Fun K "__init__" "Locked.__init__" s_Locked_init f fd) (O : OexC K CC) (nb : PySem.W.findIn K (.ref CC) "box" = some none) : FnOk P w K mg base CX0 2 f fd ["self", "box"] (spErr1 CC "box") := by
  refine F.ok sc_Locked_init (fun vs H Q E h => ?_) (fun cdv A outer s H vs Q E hr h => ?_)
  · obtain ⟨a, x, rfl, _⟩ := h
    rfl
  · obtain ⟨a, x, rfl, ha, hq⟩ := h
    refine ⟨_, pss_one (ps_ost (pv 0) (pv 1)), ?_⟩
    exact ⟨_, rfl, _, rfl, a, CC, rfl, O, nb, .inl ⟨ha, fun d hd ne => hq d hd ne⟩⟩
end
end Ts

set_option maxRecDepth 100000
set_option maxHeartbeats 4000000
namespace Ts
open PySem L2
/-! ### turns that may be locked -/
def lockedB (rs : List Row) (z : Str) : Bool := match rowOf rs z with
  | some r => decide (r.pr = none)
  | none => false
def firstLk (rs : List Row) (xs : List Str) : Option Str := xs.find? (lockedB rs)
theorem lk_free {rs : List Row} {z : Str} (hz : z ∈ names rs) (h : lockedB rs z = false) : Free rs z := by
  obtain ⟨r, e, _, _⟩ := rowOf_some hz
  unfold lockedB at h
  rw [e] at h
  exact ⟨r, e, of_decide_eq_false h⟩
theorem free_lk {rs : List Row} {z : Str} (h : Free rs z) : lockedB rs z = false := by
  obtain ⟨r, e, hp⟩ := h
  unfold lockedB
  rw [e]
  exact decide_eq_false hp
theorem first_free {rs : List Row} {xs : List Str} (h : ∀ x ∈ xs, Free rs x) : firstLk rs xs = none := List.find?_eq_none.mpr fun x hx => by rw [free_lk (h x hx)]; exact Bool.false_ne_true
def spCheckTurnsX (K : PySem.W.Frag) (C CL : Addr) : Sp := fun vs H Q E => ∃ (t u : Addr) (xs : List Str) (rs : List Row), vs = [.ref t, .ref u] ∧ TreeAt C H t rs ∧ SqX K H u (xs.map V.str) ∧ (∀ x ∈ xs, x ∈ names rs) ∧
  (∀ z, firstLk rs xs = some z → ∀ d H', H d = none → Same H H' → H' d = some (.xd [("box", .str z)]) → E (.ref CL) (some d) H') ∧ (firstLk rs xs = none → Q .non H)
def spMeaningInitX (K : PySem.W.Frag) (C CM CL : Addr) : Sp := fun vs H Q E => ∃ (m dx t h : Addr) (d : Bool) (xs : List Str) (rs : List Row), vs = [.ref m, .ref t, .bl d, .ref h] ∧ H m = some (.ins CM dx []) ∧ TreeAt C H t rs ∧ SqX K H h (xs.map V.str) ∧ (∀ x ∈ xs, x ∈ names rs) ∧
  (∀ z, firstLk rs xs = some z → ∀ d H', H d = none → Same H H' → H' d = some (.xd [("box", .str z)]) → E (.ref CL) (some d) H') ∧ (firstLk rs xs = none → ∀ H', SB m H H' → MeanAt C CM H' m t rs d (turnsL rs xs) → Q .non H')
section
variable {P : Program} {w : World} {K : PySem.W.Frag} {mg : Str → Option Value} {base : Heap} {C CM CL : Addr}
theorem ok_check_turnsX {fI : Addr} {fdI : FuncData} (D : DefAt K mg "check_turns" s_check_turns ["tree", "turns"]) (Db : DefAt K mg "check_box" s_check_box ["tree", "thing"]) (Gb : FnOk P w K mg base CX0 3 Db.f Db.fd ["tree", "thing"] (spBox C)) (T : TxT K mg C)
    (mP : MethAt K C "price" "Tree.price" s_Tree_price ["self", "box"]) (GP : FnOk P w K mg base CX0 4 mP.f mP.fd ["self", "box"] (spGet C fun r => prV r.pr))
    (TL : ErrT K mg CL "Locked" "box") (iC : PySem.W.findIn K (.ref CL) "__init__" = some (some (.ref fI))) (tI : PySem.W.typeIn K (.ref fI) = some (.type "function")) (GI : FnOk P w K mg base CX0 2 fI fdI ["self", "box"] (spErr1 CL "box")) (bI : Binds K fdI ["self", "box"] []) :
    FnOk P w K mg base (L2.CX P w) 5 D.f D.fd ["tree", "turns"] (spCheckTurnsX K C CL) := by
  refine D.F.okX sc_check_turns (fun vs H Q E h => ?_) (fun cdv A outer s H vs Q E hr h => ?_)
  · obtain ⟨t, u, xs, rs, rfl, _⟩ := h
    rfl
  · have hr2 : Room 3 _ := hr.mono (by decide)
    refine ⟨_, pss_cons (ps_for PassesOwn.leaving rfl (pi_seqX (i := 1) (pv 1)) (pg_name (i := 2) sc_check_turns.nd rfl (.inl rfl))
        (pss_one (ps_expr (pe_call Gb hr2 rfl Db.g Db.F.kp Db.b .nil pass0 (pa_cons (pv 0) (pa_cons (pv 2) pa_nil))))))
      (pss_one (ps_for PassesOwn.leaving rfl (pi_seqX (i := 1) (pv 1)) (pg_name (i := 2) sc_check_turns.nd rfl (.inl rfl))
        (pss_one (ps_if (pt_cmpR op_isN (pe_meth (pv 0) T.cl mP.m GP hr mP.b .nil pass0 (pa_cons (pv 2) pa_nil)) pe_non (nomark _)) (pss_one (ps_raise rfl (takes_of rfl rfl rfl rfl) (pmk_oex TL.O iC tI GI hr2 bI .nil pass0 rfl TL.g (by exact pa_cons (pv 2) pa_nil)))) pss_nil)))), ?_⟩
    obtain ⟨t, u, xs, rs, rfl, ht, hx, hmem, hE, hq⟩ := h
    obtain ⟨dx, q, f, k, p, qs, h1, h2, h3, h4, h5, h6⟩ := id ht.ex
    have noP : (tf q f k p).lookup ("price" : Str) = none := tf_no _ _ _ _ (by decide +kernel) (by decide +kernel) (by decide +kernel) (by decide +kernel)
    have at_ : ∀ {i : Nat} {x : V}, (xs.map V.str)[i]? = some x → ∃ z, x = .str z ∧ xs[i]? = some z ∧ z ∈ names rs := fun {i x} hx => by
      rw [List.getElem?_map] at hx
      obtain ⟨z, hz, rfl⟩ := Option.map_eq_some_iff.mp hx
      exact ⟨z, rfl, hz, hmem z (List.mem_of_getElem? hz)⟩
    refine ⟨u, _, rfl, hx, fun J W => ?_⟩
    refine for_it W (fun i σ H' => ∃ v : Option V, σ = [some (.ref t), some (.ref u), v] ∧ H' = H) ⟨none, rfl, rfl⟩ (fun i σ H' _ ⟨_, _, e⟩ => by rw [e]) ?_ ?_
    · rintro i x σ H2 H3 hi ⟨v, rfl, rfl⟩ ⟨rfl, hxi⟩
      obtain ⟨z, rfl, _, hz⟩ := at_ hxi
      exact ⟨_, rfl, _, rfl, t, z, rs, rfl, ht, hz, _, rfl, rfl⟩
    rintro σ H2 ⟨v, rfl, rfl⟩
    refine ⟨u, _, rfl, hx, fun J W => ?_⟩
    refine for_it W (fun i σ H' => ∃ v : Option V, σ = [some (.ref t), some (.ref u), v] ∧ H' = H2 ∧ ∀ x ∈ xs.take i, lockedB rs x = false) ⟨v, rfl, rfl, fun x hx => by simp at hx⟩ (fun i σ H' _ ⟨_, _, e, _⟩ => by rw [e]) ?_ ?_
    · rintro i x σ H3 H4 hi ⟨v, rfl, rfl, hall⟩ ⟨rfl, hxi⟩
      obtain ⟨z, rfl, hzi, hz⟩ := at_ hxi
      obtain ⟨r, hr', _, _⟩ := rowOf_some hz
      refine ⟨_, rfl, t, dx, _, rfl, h1, noP, _, rfl, t, z, rs, r, rfl, ht, hr', ?_⟩
      have e2 : decide ((fun r : Row => prV r.pr) r = V.non) = lockedB rs z := by
        unfold lockedB
        rw [hr']
        show decide (prV r.pr = V.non) = decide (r.pr = none)
        cases r.pr <;> rfl
      refine ⟨rfl, _, rfl, ?_⟩
      rw [e2]
      refine ite2 (fun hc => ?_) (fun hc => ?_)
      · have ef : firstLk rs xs = some z := find_at hall hzi hc
        exact ⟨_, rfl, rd_err1 fun d hd => hE z ef d _ hd (Same.new hd) upd_same⟩
      · refine ⟨_, rfl, rfl, fun y hy => ?_⟩
        rw [take_more hzi] at hy
        rcases List.mem_append.mp hy with hy | hy
        · exact hall y hy
        · rw [List.mem_singleton.mp hy]
          simpa using hc
    · rintro σ H3 ⟨v, rfl, rfl, hall⟩
      refine hq (List.find?_eq_none.mpr fun y hy => ?_)
      rw [List.length_map, List.take_length] at hall
      rw [hall y hy]
      exact Bool.false_ne_true
theorem ok_M_initX {f : Addr} {fd : FuncData} {dvs : List V} (F : FunD K "__init__" "Meaning.__init__" (defArgs s_Meaning_init) (defBody s_Meaning_init) (defScope s_Meaning_init) dvs [] f fd) (B : TxB mg) (TC : TxC K mg) (T : TxT K mg C) (M : TxM K mg CM)
    (Dc : DefAt K mg "check_turns" s_check_turns ["tree", "turns"]) (Gc : FnOk P w K mg base (L2.CX P w) 5 Dc.f Dc.fd ["tree", "turns"] (spCheckTurnsX K C CL))
    (Dv : DefAt K mg "values_of" s_values_of ["tree", "default", "turns"]) (Gv : FnOk P w K mg base CX0 6 Dv.f Dv.fd ["tree", "default", "turns"] (spValues C))
    (mB : MethAt K C "below" "Tree.below" s_Tree_below ["self", "box"]) (GB : FnOk P w K mg base CX0 5 mB.f mB.fd ["self", "box"] (spListOf C belowL)) :
    FnOk P w K mg base (L2.CX P w) 7 f fd ["self", "tree", "default", "turns"] (spMeaningInitX K C CM CL) := by
  obtain ⟨t1, gT⟩ := TC.top
  refine F.ok sc_M_init (fun vs H Q E h => ?_) (fun cdv A outer s H vs Q E hr h => ?_)
  · obtain ⟨m, dx, t, h, d, xs, rs, rfl, _⟩ := h
    rfl
  · have hr4 : Room 5 _ := hr.mono (by decide)
    refine ⟨_, pss_cons (ps_if (pt_not (pt_val (pe_callB call_isi (by rfl) B.isinstance (by decide +kernel) (pa_cons (pv 2) (pa_cons (pe_bltn (by rfl) B.bool (by decide +kernel) (v := .ty "bool") rfl) pa_nil))))) (pss_one ps_never) pss_nil)
      (pss_cons (ps_expr (pe_call Gc hr4 rfl Dc.g Dc.F.kp Dc.b .nil (passes_call (takes_of rfl rfl rfl rfl) (fun _ _ _ _ h => h)) (pa_cons (pv 1) (pa_cons (pv 3) pa_nil))))
      (pss_cons (ps_fld (pv 0) (pv 1) rfl)
      (pss_cons (ps_fld (pv 0) (pv 2) rfl)
      (pss_cons (ps_fld (pv 0) (pe_callTy call_tuple_of (by rfl) B.tuple (by decide +kernel) (pa_cons (pe_lc (own := [("box", 4)]) (g := gName 4) (tt := tTest (tOp (rIn K false) (tVar 4) (tVar 3))) (te := tVar 4) rfl sc_M_init.nd (pi_list (pe_meth (pv 1) T.cl mB.m GB hr4 mB.b .nil pass0 (pa_cons (pe_glob (by rfl) gT (v := .str ("top" : Str)) ⟨_, rfl⟩) pa_nil))) (blkOk_by (N := nMInit) (sc := defScope s_Meaning_init) (by decide +kernel))
          (fun _ _ _ _ _ => pg_name (i := 4) sc_M_init.nd rfl (Or.inl rfl)) (fun _ _ _ _ _ => by exact pts_one (pt_cmpR op_in_seq (pv 4) (pv 3) (by rfl))) (fun _ _ _ _ _ => pv 4)) pa_nil)) rfl)
      (pss_one (ps_fld (pv 0) (pe_call Gv hr rfl Dv.g Dv.F.kp Dv.b .nil pass0 (pa_cons (pv 1) (pa_cons (pv 2) (pa_cons (pe_fld (pv 0) rfl) pa_nil)))) rfl)))))), ?_⟩
    obtain ⟨m, dx, t, h, d, xs, rs, rfl, hm, ht, hx, hmem, hE, hq⟩ := h
    have hv := ht.val
    have l100 := ht.len
    obtain ⟨tx, q, f, k, p, qs, h1, _⟩ := id ht.ex
    have noB : (tf q f k p).lookup ("below" : Str) = none := tf_no _ _ _ _ (by decide +kernel) (by decide +kernel) (by decide +kernel) (by decide +kernel)
    refine ⟨_, rfl, _, _, _, _, true, rfl, .ty "bool", .base (.bl d), kit_ty (by decide +kernel), _, rfl, iteF ?_⟩
    refine ⟨_, rfl, _, rfl, t, h, xs, rs, rfl, ht, hx, hmem, hE, fun hn => ?_⟩
    refine ⟨_, rfl, _, rfl, m, CM, dx, _, rfl, hm, M.cl, M.nt, (by show 0 < 1000; decide), ?_⟩
    refine ⟨_, rfl, _, rfl, m, CM, dx, _, rfl, upd_same, M.cl, M.nd, (Nat.lt_of_le_of_lt (putF_len _ _ _) (by decide)), ?_⟩
    obtain ⟨Hb, Eb⟩ : ∃ Hx, Hx = upd (upd H m (.ins CM dx (putF "tree" (.ref t) []))) m (.ins CM dx (putF "default" (.bl d) (putF "tree" (.ref t) []))) := ⟨_, rfl⟩
    have bm : Hb m = some (.ins CM dx (putF "default" (.bl d) (putF "tree" (.ref t) []))) := by rw [Eb]; exact upd_same
    have sb : SB m H Hb := fun b o nb e => by rw [Eb, upd_ne nb, upd_ne nb]; exact e
    rw [← Eb]
    clear Eb
    have tb := ht.sbm hm sb
    have hxb : SqX K Hb h (xs.map V.str) := hx.sbm hm sb
    have htm : Hb t = some (.ins C tx (tf q f k p)) := by
      refine sb _ _ (fun e => ?_) h1
      rw [e, hm] at h1
      have e3 := Option.some.inj h1
      injection e3 with _ _ e3
      have e4 := tf_p q f k p
      rw [← e3] at e4
      cases e4
    refine ⟨_, rfl, t, tx, _, rfl, htm, noB, t, ("top" : Str), rs, rfl, tb, .inl rfl, fun bl H2 hbl s2 e2 => ?_⟩
    rw [below_top hv] at e2
    refine ⟨bl, rfl, ⟨_, SqL.of e2⟩, fun D hD => ?_⟩
    have hx2 := hxb.same s2
    refine lc_list (K := K) (a := bl) (xs := (names rs).map V.str) (fun i H' => Same H2 H' ∧ H' D = some (.lst (((names (rs.take i)).filter (fun z => decide (z ∈ xs))).map V.str))) ⟨Same.new hD, upd_same⟩ (fun i H' _ m => m.1.seq (SqL.of e2)) ?_ ?_
    · rintro i x H3 hxi ⟨s3, hD3⟩
      unfold names at hxi
      rw [List.getElem?_map, List.getElem?_map] at hxi
      obtain ⟨n1, hn1, rfl⟩ := Option.map_eq_some_iff.mp hxi
      obtain ⟨r, hr', rfl⟩ := Option.map_eq_some_iff.mp hn1
      have sz : (((names (rs.take i)).filter (fun z => decide (z ∈ xs))).map V.str).length < sizeLine := small1000 (by
        rw [List.length_map]
        have h1 := List.length_filter_le (fun z => decide (z ∈ xs)) (names (rs.take i))
        unfold names at h1 ⊢
        rw [List.length_map, List.length_take] at h1
        omega)
      refine ⟨rfl, _, rfl, _, rfl, h, _, rfl, (hx2.same s3), rfl, flat_strs _, _, rfl, ?_⟩
      have e : (if false = true then !inV (.str r.nm) (xs.map V.str) else inV (.str r.nm) (xs.map V.str)) = decide (r.nm ∈ xs) := by
        rw [if_neg Bool.false_ne_true, inV_strs]
      rw [e]
      refine ite2 (fun hc => ?_) (fun hc => ?_)
      · refine ⟨_, rfl, _, hD3, sz, fun b o eb => ?_, ?_⟩
        · rw [upd_ne (fun y => by rw [y, hD] at eb; cases eb)]
          exact s3 _ _ eb
        · rw [upd_same, turns_more hr', if_pos hc, List.map_append]; rfl
      · refine ⟨s3, ?_⟩
        rw [turns_more hr', if_neg hc, List.append_nil]
        exact hD3
    rintro H3 ⟨s3, hD3⟩
    rw [show ((names rs).map V.str).length = rs.length from by unfold names; rw [List.length_map, List.length_map], List.take_length] at hD3
    refine ⟨D, _, rfl, .inl ⟨SqL.of hD3, fun u hu => ?_⟩⟩
    have s4 := (s2.trans s3).trans (Same.new (o := .tup ((turnsL rs xs).map V.str)) hu)
    have e4 : (upd H3 u (.tup ((turnsL rs xs).map V.str))) u = some (.tup ((turnsL rs xs).map V.str)) := upd_same
    have e4' : (upd H3 u (.tup (((names rs).filter (fun z => decide (z ∈ xs))).map V.str))) = upd H3 u (.tup ((turnsL rs xs).map V.str)) := rfl
    rw [e4']
    have num : u ≠ m := fun e => by rw [e, (s2.trans s3) _ _ bm] at hu; cases hu
    generalize upd H3 u (.tup ((turnsL rs xs).map V.str)) = H4 at s4 e4
    refine ⟨_, rfl, m, CM, dx, _, rfl, s4 _ _ bm, M.cl, M.nu, (Nat.lt_of_le_of_lt (Nat.le_trans (putF_len _ _ _) (Nat.succ_le_succ (putF_len _ _ _))) (by decide)), ?_⟩
    obtain ⟨H5, E5⟩ : ∃ Hx, Hx = upd H4 m (.ins CM dx (putF "turns" (.ref u) (putF "default" (.bl d) (putF "tree" (.ref t) [])))) := ⟨_, rfl⟩
    have m5 : H5 m = some (.ins CM dx (putF "turns" (.ref u) (putF "default" (.bl d) (putF "tree" (.ref t) [])))) := by rw [E5]; exact upd_same
    have sb5 : SB m H H5 := fun b o nb e => by rw [E5, upd_ne nb]; exact s4 _ _ (sb b o nb e)
    have u5 : H5 u = some (.tup ((turnsL rs xs).map V.str)) := by rw [E5, upd_ne num]; exact e4
    rw [← E5]
    clear E5
    refine ⟨_, rfl, _, rfl, _, rfl, m, CM, dx, _, _, rfl, m5, M.cl, M.nu, (by rw [lookup_putF, if_pos rfl]), t, u, d, turnsL rs xs, rs, rfl, ht.sbm hm sb5, u5, fun kd H6 hkd s6 e6 => ?_⟩
    refine ⟨_, rfl, m, CM, dx, _, rfl, s6 _ _ m5, M.cl, M.nk, (Nat.lt_of_le_of_lt (Nat.le_trans (putF_len _ _ _) (Nat.succ_le_succ (Nat.le_trans (putF_len _ _ _) (Nat.succ_le_succ (putF_len _ _ _))))) (by decide)), ?_⟩
    have sb7 : SB m H (upd H6 m (.ins CM dx (mf t u kd d))) := fun b o nb e => by rw [upd_ne nb]; exact s6 _ _ (sb5 b o nb e)
    have nkm : kd ≠ m := fun e => by rw [e, m5] at hkd; cases hkd
    exact hq hn _ sb7 ⟨⟨dx, u, kd, upd_same, by rw [upd_ne num]; exact s6 _ _ u5, by rw [upd_ne nkm]; exact e6⟩, ht.sbm hm sb7, turnsL_norm rs xs⟩
theorem calm_init {f : Addr} {fd : FuncData} {k : Nat} {ps : List Str} (G : FnOk P w K mg base (L2.CX P w) k f fd ps (spMeaningInitX K C CM CL)) : FnOk P w K mg base CX0 k f fd ps (spMeaningInit K C CM) := calm G fun vs H Q E h => by
  obtain ⟨m, dx, t, h', d, xs, rs, rfl, hm, ht, hx, hf, hq⟩ := h
  exact ⟨m, dx, t, h', d, xs, rs, rfl, hm, ht, hx, fun x hx => (hf x hx).mem, (fun z ez => by rw [first_free hf] at ez; cases ez), fun _ => hq⟩
end
end Ts

set_option maxRecDepth 100000
set_option maxHeartbeats 4000000
namespace Ts
open PySem L2
/-! ### own operators between two objects of one class -/
def rBinC (C : Addr) (sp : Sp) (E : XK) : R2 := fun x y H Q => ∃ (a b dx dy : Addr) (fs gs : List (Str × V)), x = .ref a ∧ y = .ref b ∧ H a = some (.ins C dx fs) ∧ H b = some (.ins C dy gs) ∧ sp [.ref a, .ref b] H (fun v H' => ∃ r : Addr, v = .ref r ∧ Q v H') E
def rInvC (C : Addr) (sp : Sp) (E : XK) : V → Hp → VK → Prop := fun x H Q => ∃ (a dx : Addr) (fs : List (Str × V)), x = .ref a ∧ H a = some (.ins C dx fs) ∧ sp [.ref a] H Q E
section
variable {X : Cx} {k : Nat} {C f : Addr} {fd : FuncData} {ps : List Str} {sp : Sp} {CX : CXT} {E : XK}
theorem op_binC {op : Operator} {nm : Str} (F : FnOk X.prog X.w X.K X.mg X.base CX k f fd ps sp) (m : Meth X.K C nm f) (hn : PySem.dunder op.info.2 = nm) (hc : PySem.W.selfFirst X.K C = true) (hr : Room k X.A) (hb : Binds X.K fd ps []) (hx : Passes CX X E) : OpR X (binaryOp op) (rBinC C sp E) := by
  intro pins s σ H x y v u Q I rx ry hq
  obtain ⟨a, b, dx, dy, fs, gs, rfl, rfl, ha, hb', hsp⟩ := hq
  cases rx
  cases ry
  obtain ⟨mA, J, _⟩ := ins_get I.hok ha
  obtain ⟨od, J, _⟩ := J.look
  obtain ⟨mm, hF⟩ := I.fr
  refine PySem.W.binop_K hF I.ok.mod.kin J (ty_looks I (show RelV (.ref b) (.ref b) from rfl) (.ins hb')) hc (by rw [hn]; exact m.at_) m.fn ?_
  refine wpAny_mono (run_at F hr rfl hb hx I (us := [.ref a, .ref b]) (.cons (show RelV (.ref a) (.ref a) from rfl) (.cons (show RelV (.ref b) (.ref b) from rfl) .nil)) hsp) (fun r s' hq => ?_) fun _ _ x => x
  obtain ⟨z, H', I', rz, q, rfl, hQ⟩ := hq
  cases rz
  exact ⟨.ref q, H', I', rfl, hQ⟩
theorem un_invC (F : FnOk X.prog X.w X.K X.mg X.base CX k f fd ps sp) (m : Meth X.K C "__invert__" f) (hr : Room k X.A) (hb : Binds X.K fd ps []) (hx : Passes CX X E) : UnR X (unaryOp .Invert) (rInvC C sp E) := by
  intro pins s σ H x v Q I rx hq
  obtain ⟨a, dx, fs, rfl, ha, hsp⟩ := hq
  cases rx
  obtain ⟨mA, J, _⟩ := ins_get I.hok ha
  obtain ⟨od, J, _⟩ := J.look
  obtain ⟨mm, hF⟩ := I.fr
  exact PySem.W.ksp_inv hF I.ok.mod.kin J m.at_ m.fn (run_at F hr rfl hb hx I (us := [.ref a]) (.cons (show RelV (.ref a) (.ref a) from rfl) .nil) hsp)
end
end Ts

set_option maxRecDepth 100000
set_option maxHeartbeats 4000000
namespace Ts
open PySem L2
/-! ### meanings by their values -/
/-- the turns that give these values -/
def turnsG (rs : List Row) (v : Str → Bool) : List Str := (rs.filter fun r => decide (v r.nm ≠ v r.fo)).map (·.nm)
theorem row_same {rs : List Row} (hv : Valid rs) {r q : Row} (hr : r ∈ rs) (hq : q ∈ rs) (e : r.nm = q.nm) : r = q := by
  obtain ⟨i, hi, e1⟩ := List.mem_iff_getElem.mp hr
  obtain ⟨j, hj, e2⟩ := List.mem_iff_getElem.mp hq
  have h1 := rowOf_at hv (i := i) (r := r) (by rw [← e1]; exact List.getElem?_eq_getElem hi)
  have h2 := rowOf_at hv (i := j) (r := q) (by rw [← e2]; exact List.getElem?_eq_getElem hj)
  rw [e, h2] at h1
  exact (Option.some.inj h1).symm
theorem mem_turnsG {rs : List Row} (hv : Valid rs) {v : Str → Bool} {r : Row} (hr : r ∈ rs) : r.nm ∈ turnsG rs v ↔ v r.nm ≠ v r.fo := by
  unfold turnsG
  constructor
  · intro h
    obtain ⟨q, hq, e⟩ := List.mem_map.mp h
    rw [List.mem_filter, decide_eq_true_eq] at hq
    rw [row_same hv hr hq.1 e.symm]
    exact hq.2
  · intro h
    exact List.mem_map.mpr ⟨r, List.mem_filter.mpr ⟨hr, decide_eq_true h⟩, rfl⟩
theorem turnsG_sub (rs : List Row) (v : Str → Bool) : (turnsG rs v).Sublist (names rs) := List.Sublist.map _ List.filter_sublist
theorem val_turnsG {rs : List Row} (hv : Valid rs) (v : Str → Bool) : ∀ z ∈ plc rs, valOf rs (v "top") (turnsG rs v) z = v z := by
  have key : ∀ n : Nat, ∀ i, i < n → ∀ r, rs[i]? = some r → valOf rs (v "top") (turnsG rs v) r.nm = v r.nm := by
    intro n
    induction n with
    | zero => intro i hi; omega
    | succ n ih =>
      intro i hi r hr
      have hrm := List.mem_of_getElem? hr
      have hfo : valOf rs (v "top") (turnsG rs v) r.fo = v r.fo := by
        rcases hv.fo hr with e | e
        · rw [e, val_top hv]
        · obtain ⟨q, hq, e2⟩ := List.mem_map.mp e
          obtain ⟨j, hj, e3⟩ := List.mem_take_iff_getElem.mp hq
          rw [← e2]
          exact ih j (by omega) q (by rw [← e3]; exact List.getElem?_eq_getElem _)
      rw [val_step hv _ _ hrm, hfo]
      have e : decide (r.nm ∈ turnsG rs v) = decide (v r.nm ≠ v r.fo) := decide_eq_decide.mpr (mem_turnsG hv hrm)
      rw [e]
      cases v r.fo <;> cases v r.nm <;> rfl
  intro z hz
  rcases mem_plc.mp hz with rfl | hz
  · exact val_top hv _ _
  · obtain ⟨r, hr, rfl⟩ := List.mem_map.mp hz
    obtain ⟨i, hi, e⟩ := List.mem_iff_getElem.mp hr
    exact key (i + 1) i (by omega) r (by rw [← e]; exact List.getElem?_eq_getElem hi)
theorem fo_plc {rs : List Row} (hv : Valid rs) {r : Row} (hr : r ∈ rs) : r.fo ∈ plc rs := mem_plc.mpr (hv.foAll hr)
theorem nm_plc {rs : List Row} {r : Row} (hr : r ∈ rs) : r.nm ∈ plc rs := mem_plc.mpr (.inr (List.mem_map.mpr ⟨r, hr, rfl⟩))
structure MV (C CM : Addr) (H : Hp) (m t : Addr) (rs : List Row) (v : Str → Bool) : Prop where
  ex : ∃ (d : Bool) (ts : List Str), MeanAt C CM H m t rs d ts ∧ ∀ z ∈ plc rs, valOf rs d ts z = v z
  lk : ∀ r ∈ rs, r.pr = none → v r.nm = v r.fo
theorem MV.same {C CM : Addr} {H H' : Hp} {m t : Addr} {rs : List Row} {v : Str → Bool} (h : MV C CM H m t rs v) (s : Same H H') : MV C CM H' m t rs v := by
  obtain ⟨d, ts, hm, hv⟩ := h.ex
  exact ⟨⟨d, ts, hm.same s, hv⟩, h.lk⟩
theorem MV.at_ {C CM : Addr} {H : Hp} {m t : Addr} {rs : List Row} {v : Str → Bool} (h : MV C CM H m t rs v) : ∃ dx fs, H m = some (.ins CM dx fs) := by
  obtain ⟨d, ts, hm, hv⟩ := h.ex
  obtain ⟨dx, u, k, h1, _⟩ := hm.ex
  exact ⟨dx, _, h1⟩
theorem turns_of {rs : List Row} (hv : Valid rs) {d : Bool} {ts : List Str} {v : Str → Bool} (hn : ts = turnsL rs ts) (h : ∀ z ∈ plc rs, valOf rs d ts z = v z) : d = v "top" ∧ ts = turnsG rs v := by
  have h1 : turnsL rs (turnsG rs v) = turnsG rs v := turnsL_sub hv (turnsG_sub rs v)
  refine (val_all hv (d := d) (d2 := v "top") hn.symm h1).mp fun z hz => ?_
  rw [h z hz, val_turnsG hv v z hz]
theorem MV.turns {C CM : Addr} {H : Hp} {m t : Addr} {rs : List Row} {v : Str → Bool} (h : MV C CM H m t rs v) : MeanAt C CM H m t rs (v "top") (turnsG rs v) := by
  obtain ⟨d, ts, hm, hv⟩ := h.ex
  obtain ⟨e1, e2⟩ := turns_of hm.tree.val hm.norm hv
  rw [← e1, ← e2]
  exact hm
theorem MV.free {C CM : Addr} {H : Hp} {m t : Addr} {rs : List Row} {v : Str → Bool} (h : MV C CM H m t rs v) : ∀ z ∈ turnsG rs v, Free rs z := fun z hz => by
  have hv := h.turns.tree.val
  obtain ⟨r, hr, rfl⟩ := List.mem_map.mp hz
  rw [List.mem_filter, decide_eq_true_eq] at hr
  obtain ⟨i, hi, e⟩ := List.mem_iff_getElem.mp hr.1
  exact ⟨r, rowOf_at hv (by rw [← e]; exact List.getElem?_eq_getElem hi), fun q => hr.2 (h.lk r hr.1 q)⟩
theorem MV.valid {C CM : Addr} {H : Hp} {m t : Addr} {rs : List Row} {v : Str → Bool} (h : MV C CM H m t rs v) : Valid rs := h.turns.tree.val
/-- from a meaning -/
theorem MV.of {C CM : Addr} {H : Hp} {m t : Addr} {rs : List Row} {d : Bool} {ts : List Str} (h : MeanAt C CM H m t rs d ts) (hf : ∀ z ∈ ts, Free rs z) : MV C CM H m t rs (valOf rs d ts) := by
  refine ⟨⟨d, ts, h, fun _ _ => rfl⟩, fun r hr q => ?_⟩
  rw [val_step h.tree.val d ts hr]
  have : r.nm ∉ ts := fun hm => by
    obtain ⟨r2, e, hp⟩ := hf _ hm
    obtain ⟨i, hi, e2⟩ := List.mem_iff_getElem.mp hr
    rw [rowOf_at h.tree.val (i := i) (r := r) (by rw [← e2]; exact List.getElem?_eq_getElem hi)] at e
    cases e
    exact hp q
  rw [decide_eq_false this]
  cases valOf rs d ts r.fo <;> rfl
/-- a dict of values -/
def kvG (rs : List Row) (v : Str → Bool) : List (Key × V) := (plc rs).map fun z => ((.inr z : Key), V.bl (v z))
theorem kvM_kvG {rs : List Row} (hv : Valid rs) {d : Bool} {ts : List Str} {v : Str → Bool} (h : ∀ z ∈ plc rs, valOf rs d ts z = v z) : kvM rs d ts rs = kvG rs v := by
  unfold kvM kvG plc names kvF
  rw [List.map_cons, List.map_map]
  congr 1
  · rw [← h _ (mem_plc.mpr (.inl rfl)), val_top hv]
  · refine List.map_congr_left fun r hr => ?_
    show (Sum.inr r.nm, V.bl (valOf rs d ts r.nm)) = (Sum.inr r.nm, V.bl (v r.nm))
    rw [h _ (nm_plc hr)]
theorem valV_list (v : Str → Bool) {z : Str} : ∀ {l : List Str}, z ∈ l → valV (l.map fun z => ((.inr z : Key), V.bl (v z))) (.inr z : Key) = some (.bl (v z))
  | x :: l, hz => by
    rw [List.map_cons]
    by_cases e : x = z
    · subst e; rw [valV_pos rfl]
    · rw [valV_neg (fun q => e (Sum.inr.inj q))]
      exact valV_list v ((List.mem_cons.mp hz).resolve_left fun q => e q.symm)
theorem valV_kvG {rs : List Row} (v : Str → Bool) {z : Str} (hz : z ∈ plc rs) : valV (kvG rs v) (.inr z : Key) = some (.bl (v z)) := valV_list v hz
theorem kvG_at {rs : List Row} {v : Str → Bool} {j : Nat} {k : Key} {x : V} (h : (kvG rs v)[j]? = some (k, x)) : ∃ z : Str, k = .inr z ∧ (plc rs)[j]? = some z := by
  unfold kvG at h
  rw [List.getElem?_map] at h
  obtain ⟨z, hz, e⟩ := Option.map_eq_some_iff.mp h
  exact ⟨z, (Prod.mk.inj e).1.symm, hz⟩
theorem kvG_len (rs : List Row) (v : Str → Bool) : (kvG rs v).length = (plc rs).length := by unfold kvG; rw [List.length_map]
theorem plc_nodup {rs : List Row} (hv : Valid rs) : (plc rs).Nodup := by
  unfold plc
  rw [List.nodup_cons]
  exact ⟨top_not hv, hv.nodup⟩
/-- the values of the first places, one more -/
theorem kvP_more {l : List Str} (nd : l.Nodup) (v : Str → Bool) {i : Nat} {z : Str} (h : l[i]? = some z) : putK ((l.take i).map fun z => ((.inr z : Key), V.bl (v z))) (.inr z) (.bl (v z)) = (l.take (i + 1)).map fun z => ((.inr z : Key), V.bl (v z)) := by
  have hn : z ∉ l.take i := fun hm => by
    obtain ⟨j, hj, e⟩ := List.mem_take_iff_getElem.mp hm
    obtain ⟨hi, e2⟩ := List.getElem?_eq_some_iff.mp h
    have := (List.getElem_inj nd).mp (e.trans e2.symm)
    omega
  have hv : valV ((l.take i).map fun z => ((.inr z : Key), V.bl (v z))) (.inr z : Key) = none := by
    generalize l.take i = m at hn
    induction m with
    | nil => rfl
    | cons x m ih =>
      rw [List.map_cons, valV_neg (fun q => hn (by rw [Sum.inr.inj q]; exact List.mem_cons_self ..))]
      exact ih fun q => hn (List.mem_cons_of_mem _ q)
  rw [putK_new _ hv, take_more h, List.map_append]
  rfl
def eqV (rs : List Row) (v w : Str → Bool) : Bool := (plc rs).all fun z => v z == w z
theorem eqV_true {rs : List Row} {v w : Str → Bool} (h : ∀ z, v z = w z) : eqV rs v w = true := by
  unfold eqV
  rw [List.all_eq_true]
  intro z _
  rw [h z]; simp
theorem eqV_iff {rs : List Row} {v w : Str → Bool} : eqV rs v w = true ↔ ∀ z ∈ plc rs, v z = w z := by
  unfold eqV
  rw [List.all_eq_true]
  exact ⟨fun h z hz => by simpa using h z hz, fun h z hz => by simpa using h z hz⟩
def spBin (C CM : Addr) (f : Bool → Bool → Bool) : Sp := fun vs H Q _ => ∃ (m m2 t t2 : Addr) (rs : List Row) (v w : Str → Bool), vs = [.ref m, .ref m2] ∧ MV C CM H m t rs v ∧ MV C CM H m2 t2 rs w ∧ ∀ m3 H', Same H H' → MV C CM H' m3 t rs (fun z => f (v z) (w z)) → Q (.ref m3) H'
def spInv (C CM : Addr) : Sp := fun vs H Q _ => ∃ (m t : Addr) (rs : List Row) (v : Str → Bool), vs = [.ref m] ∧ MV C CM H m t rs v ∧ ∀ m3 H', Same H H' → MV C CM H' m3 t rs (fun z => !(v z)) → Q (.ref m3) H'
def spWith (C CM : Addr) : Sp := fun vs H Q _ => ∃ (t vd : Addr) (rs : List Row) (v : Str → Bool), vs = [.ref t, .ref vd] ∧ TreeAt C H t rs ∧ H vd = some (.dK (kvG rs v)) ∧ (∀ r ∈ rs, r.pr = none → v r.nm = v r.fo) ∧ ∀ m H', Same H H' → MV C CM H' m t rs v → Q (.ref m) H'
theorem rd_bin {C CM : Addr} {H : Hp} {m m2 t t2 : Addr} {rs : List Row} {v w : Str → Bool} {f : Bool → Bool → Bool} {E : XK} {Q : VK} (h1 : MV C CM H m t rs v) (h2 : MV C CM H m2 t2 rs w) (k : ∀ m3 H', Same H H' → MV C CM H' m3 t rs (fun z => f (v z) (w z)) → Q (.ref m3) H') : rBinC CM (spBin C CM f) E (.ref m) (.ref m2) H Q := by
  obtain ⟨dx, fs, e1⟩ := h1.at_
  obtain ⟨dy, gs, e2⟩ := h2.at_
  exact ⟨m, m2, dx, dy, fs, gs, rfl, rfl, e1, e2, m, m2, t, t2, rs, v, w, rfl, h1, h2, fun m3 H' s mv => ⟨m3, rfl, k m3 H' s mv⟩⟩
theorem rd_inv {C CM : Addr} {H : Hp} {m t : Addr} {rs : List Row} {v : Str → Bool} {E : XK} {Q : VK} (h1 : MV C CM H m t rs v) (k : ∀ m3 H', Same H H' → MV C CM H' m3 t rs (fun z => !(v z)) → Q (.ref m3) H') : rInvC CM (spInv C CM) E (.ref m) H Q := by
  obtain ⟨dx, fs, e1⟩ := h1.at_
  exact ⟨m, dx, fs, rfl, e1, m, t, rs, v, rfl, h1, k⟩
theorem eq_eqV {rs : List Row} (hv : Valid rs) (v w : Str → Bool) : (decide (rs = rs) && (decide (v "top" = w "top") && decide (turnsG rs v = turnsG rs w))) = eqV rs v w := by
  rw [decide_eq_true (rfl : rs = rs), Bool.true_and, Bool.eq_iff_iff, Bool.and_eq_true, decide_eq_true_eq, decide_eq_true_eq, eqV_iff, ← val_all hv (turnsL_sub hv (turnsG_sub rs v)) (turnsL_sub hv (turnsG_sub rs w))]
  exact ⟨fun h z hz => by have := h z hz; rw [val_turnsG hv v z hz, val_turnsG hv w z hz] at this; exact this, fun h z hz => by rw [val_turnsG hv v z hz, val_turnsG hv w z hz]; exact h z hz⟩
theorem rd_eq {K : PySem.W.Frag} {C CM : Addr} {H : Hp} {m m2 t t2 : Addr} {rs : List Row} {v w : Str → Bool} {E : XK} {Q : VK} (h1 : MV C CM H m t rs v) (h2 : MV C CM H m2 t2 rs w) (k : Q (.bl (eqV rs v w)) H) : rEqC K CM (spMEq K C CM) E (.ref m) (.ref m2) H Q := by
  obtain ⟨dx, fs, e1⟩ := h1.at_
  obtain ⟨dy, gs, e2⟩ := h2.at_
  refine ⟨m, dx, fs, .ref CM, rfl, e1, .ins e2, nfM, m, t, _, rs, _, _, rfl, h1.turns, .inl ⟨m2, t2, rs, _, _, rfl, h2.turns, _, rfl, ?_⟩⟩
  rw [eq_eqV h1.valid]
  exact k
theorem rd_ne {K : PySem.W.Frag} {C CM : Addr} {H : Hp} {m m2 t t2 : Addr} {rs : List Row} {v w : Str → Bool} {E : XK} {Q : VK} (h1 : MV C CM H m t rs v) (h2 : MV C CM H m2 t2 rs w) (k : Q (.bl (!eqV rs v w)) H) : rNeC K CM (spMEq K C CM) E (.ref m) (.ref m2) H Q := by
  obtain ⟨dx, fs, e1⟩ := h1.at_
  obtain ⟨dy, gs, e2⟩ := h2.at_
  refine ⟨m, dx, fs, .ref CM, rfl, e1, .ins e2, nfM, m, t, _, rs, _, _, rfl, h1.turns, .inl ⟨m2, t2, rs, _, _, rfl, h2.turns, _, rfl, ?_⟩⟩
  rw [eq_eqV h1.valid]
  exact k
theorem turned_not (ts : List Str) : ∀ (l : List Str) (d : Bool), turned (!d) ts l = !(turned d ts l)
  | [], _ => rfl
  | x :: l, d => by
    show turned (if x ∈ ts then !(!d) else !d) ts l = !(turned (if x ∈ ts then !d else d) ts l)
    rw [← turned_not ts l]
    by_cases h : x ∈ ts
    · rw [if_pos h, if_pos h]
    · rw [if_neg h, if_neg h]
end Ts

set_option maxRecDepth 100000
set_option maxHeartbeats 4000000
namespace Ts
open PySem L2
/-! ### wishes as data -/
abbrev Wsh := List (Str × Bool)
def kvE (es : Wsh) : List (Key × V) := es.map fun e => ((.inr e.1 : Key), V.bl e.2)
def endO (es : Wsh) (z : Str) : Option Bool := (es.find? fun e => decide (e.1 = z)).map (·.2)
theorem kvE_val (z : Str) : ∀ es : Wsh, valV (kvE es) (.inr z : Key) = (endO es z).map V.bl
  | [] => rfl
  | e :: es => by
    have ih := kvE_val z es
    unfold endO at ih ⊢
    show valV (((.inr e.1 : Key), V.bl e.2) :: kvE es) _ = _
    rw [List.find?_cons]
    by_cases q : e.1 = z
    · rw [decide_eq_true q, valV_pos (by rw [q])]; rfl
    · rw [decide_eq_false q, valV_neg (fun x => q (Sum.inr.inj x))]; exact ih
structure EndsOk (rs : List Row) (es : Wsh) : Prop where
  nd : (es.map (·.1)).Nodup
  inp : ∀ e ∈ es, e.1 ∈ plc rs
  len : es.length ≤ 200
def putE (es : Wsh) (z : Str) (b : Bool) : Wsh := if (es.any fun e => decide (e.1 = z)) = true then es.map (fun e => if e.1 = z then (z, b) else e) else es ++ [(z, b)]
theorem kvE_put (es : Wsh) (z : Str) (b : Bool) : putK (kvE es) (.inr z) (.bl b) = kvE (putE es z b) := by
  have ha : ((kvE es).any fun kv => decide (kv.1 = (.inr z : Key))) = es.any fun e => decide (e.1 = z) := by
    unfold kvE
    rw [List.any_map]
    congr 1
    funext e
    show decide ((.inr e.1 : Key) = .inr z) = _
    by_cases q : e.1 = z
    · rw [decide_eq_true q, decide_eq_true (by rw [q])]
    · rw [decide_eq_false q, decide_eq_false (fun x => q (Sum.inr.inj x))]
  unfold putK putE
  rw [ha]
  split
  · unfold kvE
    rw [List.map_map, List.map_map]
    refine List.map_congr_left fun e _ => ?_
    show (if ((.inr e.1 : Key)) = .inr z then ((.inr e.1 : Key), V.bl b) else ((.inr e.1 : Key), V.bl e.2)) = ((.inr (if e.1 = z then (z, b) else e).1 : Key), V.bl (if e.1 = z then (z, b) else e).2)
    by_cases q : e.1 = z
    · rw [if_pos (by rw [q]), if_pos q, q]
    · rw [if_neg (fun x => q (Sum.inr.inj x)), if_neg q]
  · unfold kvE
    rw [List.map_append]; rfl
theorem any_mem {es : Wsh} {z : Str} : (es.any fun e => decide (e.1 = z)) = true ↔ z ∈ es.map (·.1) := by
  rw [List.any_eq_true, List.mem_map]
  exact ⟨fun ⟨e, h1, h2⟩ => ⟨e, h1, of_decide_eq_true h2⟩, fun ⟨e, h1, h2⟩ => ⟨e, h1, decide_eq_true h2⟩⟩
theorem putE_keys (es : Wsh) (z : Str) (b : Bool) : (putE es z b).map (·.1) = if z ∈ es.map (·.1) then es.map (·.1) else es.map (·.1) ++ [z] := by
  unfold putE
  by_cases h : z ∈ es.map (·.1)
  · rw [if_pos (any_mem.mpr h), if_pos h, List.map_map]
    refine List.map_congr_left fun e _ => ?_
    show (if e.1 = z then (z, b) else e).1 = e.1
    by_cases q : e.1 = z
    · rw [if_pos q, q]
    · rw [if_neg q]
  · rw [if_neg (fun q => h (any_mem.mp q)), if_neg h, List.map_append]; rfl
theorem putE_len (es : Wsh) (z : Str) (b : Bool) : (putE es z b).length ≤ es.length + 1 := by
  have h := congrArg List.length (putE_keys es z b)
  rw [List.length_map] at h
  rw [h]
  split
  · rw [List.length_map]; exact Nat.le_succ _
  · rw [List.length_append, List.length_map]; exact Nat.le_refl _
theorem endO_put (es : Wsh) (z : Str) (b : Bool) (y : Str) : endO (putE es z b) y = if y = z then some b else endO es y := by
  have h1 := kvE_val y (putE es z b)
  rw [← kvE_put] at h1
  have inj : ∀ a c : Option Bool, a.map V.bl = c.map V.bl → a = c := fun a c e => by
    cases a <;> cases c <;> simp_all
  refine inj _ _ ?_
  rw [← h1, valV_put]
  by_cases q : y = z
  · rw [if_pos q, if_pos (by rw [q])]; rfl
  · rw [if_neg q, if_neg (fun x => q (Sum.inr.inj x)), kvE_val]
theorem endO_mem {es : Wsh} (nd : (es.map (·.1)).Nodup) {e : Str × Bool} (he : e ∈ es) : endO es e.1 = some e.2 := by
  induction es with
  | nil => cases he
  | cons x l ih =>
    unfold endO at ih ⊢
    rw [List.map_cons, List.nodup_cons] at nd
    rw [List.find?_cons]
    rcases List.mem_cons.mp he with rfl | he
    · rw [decide_eq_true rfl]; rfl
    · rw [decide_eq_false (fun q => nd.1 (by rw [q]; exact List.mem_map.mpr ⟨e, he, rfl⟩))]
      exact ih nd.2 he
theorem endO_some {es : Wsh} {z : Str} {b : Bool} (h : endO es z = some b) : (z, b) ∈ es := by
  unfold endO at h
  obtain ⟨e, he, rfl⟩ := Option.map_eq_some_iff.mp h
  have h1 := List.mem_of_find?_eq_some he
  have h2 : e.1 = z := of_decide_eq_true (List.find?_some (p := fun e : Str × Bool => decide (e.1 = z)) he)
  rw [← h2]; exact h1
theorem putE_ok {rs : List Row} {es : Wsh} (h : EndsOk rs es) (l : es.length ≤ 150) {z : Str} (hz : z ∈ plc rs) (b : Bool) : EndsOk rs (putE es z b) := by
  refine ⟨?_, fun e he => ?_, by have := putE_len es z b; omega⟩
  · rw [putE_keys]
    split
    · exact h.nd
    · rename_i q
      rw [List.nodup_append]
      exact ⟨h.nd, by simp, fun a ha c hc => by rw [List.mem_singleton.mp hc]; exact fun x => q (by rw [← x]; exact ha)⟩
  · have : e.1 ∈ (putE es z b).map (·.1) := List.mem_map.mpr ⟨e, he, rfl⟩
    rw [putE_keys] at this
    split at this
    · obtain ⟨e', h1, h2⟩ := List.mem_map.mp this
      rw [← h2]; exact h.inp _ h1
    · rcases List.mem_append.mp this with h1 | h1
      · obtain ⟨e', h1, h2⟩ := List.mem_map.mp h1
        rw [← h2]; exact h.inp _ h1
      · rw [List.mem_singleton.mp h1]; exact hz
def topE (d : Option Bool) (es : Wsh) : Wsh := match d with
  | none => es
  | some b => putE es "top" b
theorem topE_ok {rs : List Row} {es : Wsh} (h : EndsOk rs es) (l : es.length ≤ 150) (d : Option Bool) : EndsOk rs (topE d es) := by
  cases d with
  | none => exact h
  | some b => exact putE_ok h l (mem_plc.mpr (.inl rfl)) b
/-! ### locked steps upward -/
def lockR (rs : List Row) (z : Str) : Str := ((wayOf rs z).reverse.dropWhile (lockedB rs)).headD "top"
theorem lockR_top {rs : List Row} (hv : Valid rs) : lockR rs "top" = "top" := by
  unfold lockR
  rw [way_top hv]; rfl
theorem lockB_row {rs : List Row} (hv : Valid rs) {r : Row} (hr : r ∈ rs) : lockedB rs r.nm = decide (r.pr = none) := by
  obtain ⟨i, hi, e⟩ := List.mem_iff_getElem.mp hr
  unfold lockedB
  rw [rowOf_at hv (show rs[i]? = some r by rw [← e]; exact List.getElem?_eq_getElem hi)]
theorem lockR_row {rs : List Row} (hv : Valid rs) {r : Row} (hr : r ∈ rs) : lockR rs r.nm = if r.pr = none then lockR rs r.fo else r.nm := by
  unfold lockR
  rw [way_step hv hr, List.reverse_append, List.reverse_singleton, List.singleton_append, List.dropWhile_cons, lockB_row hv hr]
  by_cases q : r.pr = none
  · rw [decide_eq_true q, if_pos rfl, if_pos q]
  · rw [decide_eq_false q, if_neg Bool.false_ne_true, if_neg q]; rfl
def OpenE (rs : List Row) (es : Wsh) : Prop := ∀ e ∈ es, ∀ e' ∈ es, lockR rs e.1 = lockR rs e'.1 → e.2 = e'.2
def feasV (rs : List Row) (es : Wsh) (z : Str) : Bool := ((es.find? fun e => decide (lockR rs e.1 = lockR rs z)).map (·.2)).getD false
def NoLk (rs : List Row) (v : Str → Bool) : Prop := ∀ r ∈ rs, r.pr = none → v r.nm = v r.fo
def Keeps (es : Wsh) (v : Str → Bool) : Prop := ∀ e ∈ es, v e.1 = e.2
theorem feas_nolk {rs : List Row} (hv : Valid rs) (es : Wsh) : NoLk rs (feasV rs es) := fun r hr q => by
  unfold feasV
  rw [lockR_row hv hr, if_pos q]
theorem feas_keeps {rs : List Row} {es : Wsh} (h : OpenE rs es) : Keeps es (feasV rs es) := fun e he => by
  unfold feasV
  cases c : es.find? fun e' => decide (lockR rs e'.1 = lockR rs e.1) with
  | none =>
    have := List.find?_eq_none.mp c e he
    exact absurd (decide_eq_true rfl) this
  | some e' =>
    exact h e' (List.mem_of_find?_eq_some c) e he (of_decide_eq_true (List.find?_some (p := fun e' : Str × Bool => decide (lockR rs e'.1 = lockR rs e.1)) c))
/-! ### prices -/
def prI (r : Row) : Int := r.pr.getD 0
def allI (rs : List Row) : Int := (rs.map prI).sum
def endlessI (rs : List Row) : Int := 1 + allI rs
def stepR (rs : List Row) (r : Row) : Int := r.pr.getD (endlessI rs)
def stepI (rs : List Row) (z : Str) : Int := match rowOf rs z with
  | some r => stepR rs r
  | none => 0
def turnI (rs : List Row) (v : Str → Bool) (r : Row) : Int := if v r.nm = v r.fo then 0 else stepR rs r
def costV (v : Str → Bool) (r : Row) : Int := if v r.nm = v r.fo then 0 else prI r
def priceV (rs : List Row) (v : Str → Bool) : Int := (rs.map (costV v)).sum
def pen (rs : List Row) (es : Wsh) (z : Str) (b : Bool) : Int := if endO es z = some (!b) then endlessI rs else 0
theorem Valid.prI {rs : List Row} (hv : Valid rs) {r : Row} (hr : r ∈ rs) : 0 ≤ prI r := by
  obtain ⟨i, hi, e⟩ := List.mem_iff_getElem.mp hr
  have h := (hv i r (by rw [← e]; exact List.getElem?_eq_getElem hi)).price
  unfold Ts.prI
  cases q : r.pr with
  | none => exact Int.le_refl _
  | some p =>
    rw [q] at h
    have h : 1 ≤ p := h
    show 0 ≤ p
    omega
theorem sum_pos {l : List Int} (h : ∀ x ∈ l, 0 ≤ x) : 0 ≤ l.sum := by
  induction l with
  | nil => exact Int.le_refl _
  | cons a l ih =>
    rw [List.sum_cons]
    have h1 := h a (List.mem_cons_self ..)
    have h2 := ih fun x hx => h x (List.mem_cons_of_mem _ hx)
    omega
theorem sum_le {α : Type} {l : List α} {f g : α → Int} (h : ∀ x ∈ l, f x ≤ g x) : (l.map f).sum ≤ (l.map g).sum := by
  induction l with
  | nil => exact Int.le_refl _
  | cons a l ih =>
    rw [List.map_cons, List.map_cons, List.sum_cons, List.sum_cons]
    have h1 := h a (List.mem_cons_self ..)
    have h2 := ih fun x hx => h x (List.mem_cons_of_mem _ hx)
    omega
theorem sum_mem {α : Type} {l : List α} {f : α → Int} (h : ∀ x ∈ l, 0 ≤ f x) {a : α} (ha : a ∈ l) : f a ≤ (l.map f).sum := by
  induction l with
  | nil => cases ha
  | cons b l ih =>
    rw [List.map_cons, List.sum_cons]
    have h2 : 0 ≤ (l.map f).sum := sum_pos fun x hx => by
      obtain ⟨y, hy, rfl⟩ := List.mem_map.mp hx
      exact h y (List.mem_cons_of_mem _ hy)
    rcases List.mem_cons.mp ha with rfl | ha
    · omega
    · have h1 := h b (List.mem_cons_self ..)
      have h3 := ih (fun x hx => h x (List.mem_cons_of_mem _ hx)) ha
      omega
theorem endless_pos {rs : List Row} (hv : Valid rs) : 1 ≤ endlessI rs := by
  have : 0 ≤ allI rs := sum_pos fun x hx => by
    obtain ⟨r, hr, rfl⟩ := List.mem_map.mp hx
    exact hv.prI hr
  unfold endlessI
  omega
theorem price_all {rs : List Row} (hv : Valid rs) (v : Str → Bool) : priceV rs v ≤ allI rs := sum_le fun r hr => by
  have := hv.prI hr
  unfold costV
  split <;> omega
/-! ### the table -/
abbrev Tab := Str → Bool → Int
def stepT (rs : List Row) (r : Row) (f : Tab) : Tab := fun z b => if z = r.fo then f z b + min (f r.nm b) (f r.nm (!b) + stepR rs r) else f z b
def tabT (rs : List Row) (es : Wsh) : List Row → Tab
  | [] => pen rs es
  | r :: l => stepT rs r (tabT rs es l)
def tabF (rs : List Row) (es : Wsh) : Tab := tabT rs es rs
def pickV (rs : List Row) (f : Tab) (fav : Bool) (b : Str) (v : Bool) : Bool :=
  if f b fav + (if v = fav then 0 else stepI rs b) ≤ f b (!fav) + (if v = !fav then 0 else stepI rs b) then fav else !fav
def favV (rs : List Row) (f : Tab) (fav : Bool) (z : Str) : Bool :=
  (wayOf rs z).foldl (fun v b => pickV rs f fav b v) (if f "top" fav ≤ f "top" (!fav) then fav else !fav)
theorem favV_top {rs : List Row} (hv : Valid rs) (f : Tab) (fav : Bool) : favV rs f fav "top" = if f "top" fav ≤ f "top" (!fav) then fav else !fav := by
  unfold favV
  rw [way_top hv]; rfl
theorem favV_row {rs : List Row} (hv : Valid rs) (f : Tab) (fav : Bool) {r : Row} (hr : r ∈ rs) : favV rs f fav r.nm = pickV rs f fav r.nm (favV rs f fav r.fo) := by
  unfold favV
  rw [way_step hv hr, List.foldl_append]; rfl
theorem stepI_row {rs : List Row} (hv : Valid rs) {r : Row} (hr : r ∈ rs) : stepI rs r.nm = stepR rs r := by
  obtain ⟨i, hi, e⟩ := List.mem_iff_getElem.mp hr
  unfold stepI
  rw [rowOf_at hv (show rs[i]? = some r by rw [← e]; exact List.getElem?_eq_getElem hi)]
theorem sum_one {l : List Str} (nd : l.Nodup) {a : Str} (ha : a ∈ l) (g : Str → Int) (m : Int) : (l.map fun z => if z = a then g z + m else g z).sum = (l.map g).sum + m := by
  induction l with
  | nil => cases ha
  | cons b l ih =>
    rw [List.nodup_cons] at nd
    rw [List.map_cons, List.map_cons, List.sum_cons, List.sum_cons]
    by_cases q : b = a
    · have e : l.map (fun z => if z = a then g z + m else g z) = l.map g := List.map_congr_left fun z hz => if_neg fun x => nd.1 (by rw [q, ← x]; exact hz)
      rw [if_pos q, e]; omega
    · rw [if_neg q, ih nd.2 ((List.mem_cons.mp ha).resolve_left fun x => q x.symm)]; omega
def phi (rs : List Row) (es : Wsh) (v : Str → Bool) (pre suf : List Row) : Int := (pre.map (turnI rs v)).sum + ((plc pre).map fun z => tabT rs es suf z (v z)).sum
/-- all that a choice of values costs, with what it breaks -/
def fullW (rs : List Row) (es : Wsh) (v : Str → Bool) : Int := phi rs es v rs []
theorem valid_pre {pre suf : List Row} (h : Valid (pre ++ suf)) : Valid pre := fun i r hr => by
  have hi := (List.getElem?_eq_some_iff.mp hr).1
  have := h i r (by rw [List.getElem?_append_left hi]; exact hr)
  rw [List.take_append_of_le_length (Nat.le_of_lt hi)] at this
  exact this
theorem fits_at {pre suf : List Row} {r : Row} (h : Valid (pre ++ r :: suf)) : Fits pre r := by
  have := h pre.length r (by simp)
  rw [List.take_append_of_le_length (Nat.le_refl _), List.take_length] at this
  exact this
theorem fo_pre {pre : List Row} {r : Row} (h : Fits pre r) : r.fo ∈ plc pre := by
  rcases h.home with e | ⟨q, hq, e, _⟩
  · exact mem_plc.mpr (.inl e)
  · exact mem_plc.mpr (.inr (List.mem_map.mpr ⟨q, hq, e⟩))
theorem nm_pre {pre : List Row} {r : Row} (h : Fits pre r) : r.nm ∉ plc pre := fun q => by
  rcases mem_plc.mp q with e | e
  · exact h.top e
  · exact h.new e
theorem plc_snoc (pre : List Row) (r : Row) : plc (pre ++ [r]) = plc pre ++ [r.nm] := by
  unfold plc names
  rw [List.map_append]; rfl
/-- what one box adds -/
def gapI (rs : List Row) (f : Tab) (v : Str → Bool) (r : Row) : Int := f r.nm (v r.nm) + turnI rs v r - min (f r.nm (v r.fo)) (f r.nm (!(v r.fo)) + stepR rs r)
theorem phi_step {rs : List Row} {es : Wsh} {v : Str → Bool} {pre suf : List Row} {r : Row} (h : Valid (pre ++ r :: suf)) : phi rs es v (pre ++ [r]) suf = phi rs es v pre (r :: suf) + gapI rs (tabT rs es suf) v r := by
  have hf := fits_at h
  have hp := valid_pre h
  unfold phi gapI
  rw [List.map_append, List.sum_append, plc_snoc, List.map_append, List.sum_append]
  show _ = (List.map (turnI rs v) pre).sum + ((plc pre).map fun z => stepT rs r (tabT rs es suf) z (v z)).sum + _
  have e : ((plc pre).map fun z => stepT rs r (tabT rs es suf) z (v z)) = (plc pre).map fun z => if z = r.fo then tabT rs es suf z (v z) + min (tabT rs es suf r.nm (v r.fo)) (tabT rs es suf r.nm (!(v r.fo)) + stepR rs r) else tabT rs es suf z (v z) := by
    refine List.map_congr_left fun z _ => ?_
    unfold stepT
    by_cases q : z = r.fo
    · rw [if_pos q, if_pos q, q]
    · rw [if_neg q, if_neg q]
  rw [e, sum_one (plc_nodup hp) (fo_pre hf)]
  simp only [List.map_cons, List.map_nil, List.sum_cons, List.sum_nil]
  omega
theorem gap_pos {rs : List Row} {f : Tab} {v : Str → Bool} {r : Row} : 0 ≤ gapI rs f v r := by
  unfold gapI turnI
  by_cases q : v r.nm = v r.fo
  · rw [if_pos q, q]; omega
  · have e : v r.nm = !(v r.fo) := by cases h1 : v r.nm <;> cases h2 : v r.fo <;> simp_all
    rw [if_neg q, e]; omega
theorem phi_le {rs : List Row} {es : Wsh} {v : Str → Bool} : ∀ (suf pre : List Row), Valid (pre ++ suf) → phi rs es v pre suf ≤ phi rs es v (pre ++ suf) []
  | [], pre, _ => by rw [List.append_nil]; exact Int.le_refl _
  | r :: suf, pre, h => by
    have h1 := phi_step (rs := rs) (es := es) (v := v) h
    have h2 := phi_le (rs := rs) (es := es) (v := v) suf (pre ++ [r]) (by rw [List.append_assoc]; exact h)
    rw [List.append_assoc] at h2
    have h3 := gap_pos (rs := rs) (f := tabT rs es suf) (v := v) (r := r)
    have h4 : phi rs es v (pre ++ [r]) suf ≤ phi rs es v (pre ++ r :: suf) [] := h2
    omega
theorem phi_eq {rs : List Row} {es : Wsh} {v : Str → Bool} : ∀ (suf pre : List Row), Valid (pre ++ suf) → (∀ pre' r suf', pre ++ suf = pre' ++ r :: suf' → gapI rs (tabT rs es suf') v r = 0) → phi rs es v pre suf = phi rs es v (pre ++ suf) []
  | [], pre, _, _ => by rw [List.append_nil]
  | r :: suf, pre, h, g => by
    have h1 := phi_step (rs := rs) (es := es) (v := v) h
    have h2 := phi_eq (rs := rs) (es := es) (v := v) suf (pre ++ [r]) (by rw [List.append_assoc]; exact h) (fun p' r' s' e => g p' r' s' (by rw [← e, List.append_assoc]; rfl))
    rw [List.append_assoc] at h2
    have h3 := g pre r suf rfl
    have h4 : phi rs es v (pre ++ [r]) suf = phi rs es v (pre ++ r :: suf) [] := h2
    omega
theorem phi_nil (rs : List Row) (es : Wsh) (v : Str → Bool) : phi rs es v [] rs = tabF rs es "top" (v "top") := by
  unfold phi plc names tabF
  simp
theorem tab_le {rs : List Row} (hv : Valid rs) (es : Wsh) (v : Str → Bool) : tabF rs es "top" (v "top") ≤ fullW rs es v := by
  have := phi_le (rs := rs) (es := es) (v := v) rs [] hv
  rw [phi_nil] at this
  exact this
/-- a box's entries are done when it is added up -/
theorem tab_done {rs : List Row} {es : Wsh} {z : Str} {b : Bool} : ∀ (pre suf : List Row), (∀ r ∈ pre, r.fo ≠ z) → tabT rs es (pre ++ suf) z b = tabT rs es suf z b
  | [], suf, _ => rfl
  | r :: pre, suf, h => by
    show stepT rs r (tabT rs es (pre ++ suf)) z b = _
    unfold stepT
    rw [if_neg (fun q => h r (List.mem_cons_self ..) q.symm)]
    exact tab_done pre suf fun q hq => h q (List.mem_cons_of_mem _ hq)
theorem tab_fix {rs : List Row} (hv : Valid rs) (es : Wsh) {pre suf : List Row} {r : Row} (e : rs = pre ++ r :: suf) (b : Bool) : tabT rs es suf r.nm b = tabF rs es r.nm b := by
  have hv' := hv
  rw [e] at hv'
  have hf := fits_at hv'
  have hp := valid_pre hv'
  have h1 : ∀ q ∈ pre, q.fo ≠ r.nm := fun q hq x => nm_pre hf (by rw [← x]; exact fo_plc hp hq)
  unfold tabF
  rw [show tabT rs es rs = tabT rs es (pre ++ r :: suf) from by rw [← e], tab_done pre _ h1]
  show _ = stepT rs r (tabT rs es suf) r.nm b
  unfold stepT
  rw [if_neg fun q => nm_pre hf (by rw [q]; exact fo_pre hf)]
theorem fav_full {rs : List Row} (hv : Valid rs) (es : Wsh) (fav : Bool) : fullW rs es (favV rs (tabF rs es) fav) = min (tabF rs es "top" false) (tabF rs es "top" true) := by
  have h := phi_eq (rs := rs) (es := es) (v := favV rs (tabF rs es) fav) rs [] hv fun pre r suf e => by
    have e : rs = pre ++ r :: suf := e
    have hr : r ∈ rs := by rw [e]; simp
    unfold gapI turnI
    rw [tab_fix hv es e, tab_fix hv es e, tab_fix hv es e, favV_row hv _ _ hr]
    generalize favV rs (tabF rs es) fav r.fo = w
    unfold pickV
    rw [stepI_row hv hr]
    cases w <;> cases fav <;> simp only [Bool.not_true, Bool.not_false, if_true, Bool.false_eq_true, if_false, Bool.true_eq_false, Int.add_zero] <;> split <;> simp only [Bool.not_true, Bool.not_false, if_true, Bool.false_eq_true, if_false, Bool.true_eq_false, Int.add_zero] <;> omega
  rw [phi_nil] at h
  unfold fullW
  rw [← show phi rs es (favV rs (tabF rs es) fav) ([] ++ rs) [] = phi rs es (favV rs (tabF rs es) fav) rs [] from rfl, ← h, favV_top hv]
  cases fav <;> simp only [Bool.not_true, Bool.not_false] <;> split <;> omega
/-! ### values that keep the wish -/
theorem full_nice {rs : List Row} (hv : Valid rs) {es : Wsh} (nd : (es.map (·.1)).Nodup) {v : Str → Bool} (h1 : NoLk rs v) (h2 : Keeps es v) : fullW rs es v = priceV rs v := by
  unfold fullW phi priceV
  have e1 : rs.map (turnI rs v) = rs.map (costV v) := List.map_congr_left fun r hr => by
    unfold turnI costV stepR prI
    by_cases q : v r.nm = v r.fo
    · rw [if_pos q, if_pos q]
    · rw [if_neg q, if_neg q]
      cases c : r.pr with
      | none => exact absurd (h1 r hr c) q
      | some p => rfl
  have e2 : ((plc rs).map fun z => tabT rs es [] z (v z)) = (plc rs).map fun _ => (0 : Int) := List.map_congr_left fun z _ => by
    show pen rs es z (v z) = 0
    unfold pen
    refine if_neg fun q => ?_
    have := h2 _ (endO_some q)
    have this : v z = !(v z) := this
    cases c : v z <;> rw [c] at this <;> cases this
  rw [e1, e2]
  have : ∀ l : List Str, (l.map fun _ => (0 : Int)).sum = 0 := fun l => by
    induction l with
    | nil => rfl
    | cons a l ih => rw [List.map_cons, List.sum_cons, ih]; rfl
  rw [this]; omega
theorem full_small {rs : List Row} (hv : Valid rs) {es : Wsh} (ok : EndsOk rs es) {v : Str → Bool} (h : fullW rs es v < endlessI rs) : NoLk rs v ∧ Keeps es v := by
  have e0 := endless_pos hv
  have t0 : ∀ r ∈ rs, 0 ≤ turnI rs v r := fun r hr => by
    have := hv.prI hr
    unfold turnI stepR
    split
    · exact Int.le_refl _
    · cases c : r.pr with
      | none => show 0 ≤ endlessI rs; omega
      | some p => unfold Ts.prI at this; rw [c] at this; exact this
  have p0 : ∀ z ∈ plc rs, 0 ≤ tabT rs es [] z (v z) := fun z _ => by
    show 0 ≤ pen rs es z (v z)
    unfold pen
    split <;> omega
  have s1 : 0 ≤ (rs.map (turnI rs v)).sum := sum_pos fun x hx => by
    obtain ⟨r, hr, rfl⟩ := List.mem_map.mp hx
    exact t0 r hr
  have s2 : 0 ≤ ((plc rs).map fun z => tabT rs es [] z (v z)).sum := sum_pos fun x hx => by
    obtain ⟨z, hz, rfl⟩ := List.mem_map.mp hx
    exact p0 z hz
  unfold fullW phi at h
  refine ⟨fun r hr q => ?_, fun e he => ?_⟩
  · refine Classical.byContradiction fun n => ?_
    have := sum_mem t0 hr
    unfold turnI stepR at this
    rw [if_neg n, q] at this
    have this : endlessI rs ≤ (rs.map (turnI rs v)).sum := this
    omega
  · refine Classical.byContradiction fun n => ?_
    have := sum_mem p0 (ok.inp e he)
    have e1 : tabT rs es [] e.1 (v e.1) = endlessI rs := by
      show pen rs es e.1 (v e.1) = _
      unfold pen
      rw [endO_mem ok.nd he]
      refine if_pos ?_
      cases c1 : e.2 <;> cases c2 : v e.1 <;> simp_all
    rw [e1] at this
    omega
def cheapI (rs : List Row) (es : Wsh) : Int := min (tabF rs es "top" false) (tabF rs es "top" true)
theorem cheap_le {rs : List Row} (hv : Valid rs) (es : Wsh) (v : Str → Bool) : cheapI rs es ≤ fullW rs es v := by
  have := tab_le hv es v
  unfold cheapI
  cases c : v "top" <;> rw [c] at this <;> omega
theorem cheap_small {rs : List Row} (hv : Valid rs) {es : Wsh} (ok : EndsOk rs es) (h : OpenE rs es) : cheapI rs es < endlessI rs := by
  have h1 := cheap_le hv es (feasV rs es)
  rw [full_nice hv ok.nd (feas_nolk hv es) (feas_keeps h)] at h1
  have h2 := price_all hv (feasV rs es)
  unfold endlessI
  omega
theorem fav_good {rs : List Row} (hv : Valid rs) {es : Wsh} (ok : EndsOk rs es) (h : OpenE rs es) (fav : Bool) : NoLk rs (favV rs (tabF rs es) fav) ∧ Keeps es (favV rs (tabF rs es) fav) ∧ priceV rs (favV rs (tabF rs es) fav) = cheapI rs es := by
  have e := fav_full hv es fav
  have s := cheap_small hv ok h
  obtain ⟨h1, h2⟩ := full_small hv ok (v := favV rs (tabF rs es) fav) (by rw [e]; exact s)
  exact ⟨h1, h2, by rw [← full_nice hv ok.nd h1 h2, e]; rfl⟩
/-- nothing that keeps the wish is cheaper -/
theorem cheap_least {rs : List Row} (hv : Valid rs) {es : Wsh} (nd : (es.map (·.1)).Nodup) {v : Str → Bool} (h1 : NoLk rs v) (h2 : Keeps es v) : cheapI rs es ≤ priceV rs v := by
  rw [← full_nice hv nd h1 h2]
  exact cheap_le hv es v
end Ts

set_option maxRecDepth 100000
set_option maxHeartbeats 4000000
namespace Ts
open PySem L2
/-- a dict comprehension over any walk -/
theorem dc_walk {J : It} {n : Nat} {G : Hp → Prop} {Y : Nat → Hp → V → Hp → Prop} (wk : Walk J n G Y) {g : TG} {tt : TT} {tk tv : TE} {us : List Nat} {σ : L2.St} {H0 : Hp} {D : Addr} {Qd : Hp → Prop} (I : Nat → Hp → Prop) (start : I 0 (upd H0 D (.dK []))) (stays : ∀ i H, i ≤ n → I i H → G H)
    (turn : ∀ i x H H', i < n → I i H → Y i H x H' → g x (wipe σ us) H' fun σ2 H2 => wipe σ2 us = wipe σ us ∧ tt σ2 H2 fun b H3 => if b = true then tk σ2 H3 fun y H4 => tv σ2 H4 fun z H5 => ∃ kvs k, y = kV k ∧ H5 D = some (.dK kvs) ∧ kvs.length < sizeLine ∧ I (i + 1) (upd H5 D (.dK (putK kvs k z))) else I (i + 1) H3)
    (done : ∀ H, I n H → Qd H) : ∃ W : Nat → Nat → Hp → Prop, (∃ m, W 0 m (upd H0 D (.dK []))) ∧ ∀ i m H, W i m H → (J.stop i H ∧ Qd H) ∨ (J.go i H ∧ ∃ Nx : Hp → Prop, (∀ H', Nx H' → ∃ m', m' < m ∧ W (i + 1) m' H') ∧ ∀ x H', J.yld i H x H' → g x (wipe σ us) H' fun σ2 H2 => wipe σ2 us = wipe σ us ∧ tt σ2 H2 fun b H3 =>
      if b = true then tk σ2 H3 fun y H4 => tv σ2 H4 fun z H5 => ∃ kvs k, y = kV k ∧ H5 D = some (.dK kvs) ∧ kvs.length < sizeLine ∧ Nx (upd H5 D (.dK (putK kvs k z))) else Nx H3) := by
  refine ⟨fun i m H => m = n - i ∧ i ≤ n ∧ I i H, ⟨n, rfl, Nat.zero_le _, start⟩, ?_⟩
  rintro i m H ⟨rfl, hi, here⟩
  have ok := stays i H hi here
  rcases Nat.lt_or_ge i n with lt | ge
  · exact .inr ⟨wk.goes i H lt ok, I (i + 1), fun H' h' => ⟨n - (i + 1), by omega, rfl, lt, h'⟩, fun x H' y => turn i x H H' lt here (wk.yields i H x H' lt ok y)⟩
  · obtain rfl : i = n := Nat.le_antisymm hi ge
    exact .inl ⟨wk.stops H ok, done H here⟩
def spCheckTrees (C CM : Addr) : Sp := fun vs H Q _ => ∃ (m m2 t t2 : Addr) (rs : List Row) (d d2 : Bool) (ts ts2 : List Str), vs = [.ref m, .ref m2] ∧ MeanAt C CM H m t rs d ts ∧ MeanAt C CM H m2 t2 rs d2 ts2 ∧ Q .non H
section
variable {P : Program} {w : World} {K : PySem.W.Frag} {mg : Str → Option Value} {base : Heap} {C CM : Addr}
theorem sc_check_trees : FnScope ["one", "other"] ["one", "other"] (defScope s_check_trees) := ⟨rfl, rfl, rfl, by decide +kernel, rfl, by decide +kernel, by decide +kernel⟩
theorem ok_check_trees (D : DefAt K mg "check_trees" s_check_trees ["one", "other"]) (M : TxM K mg CM) (N : TxN K C)
    (mE : MethAt K C "__eq__" "Tree.__eq__" s_Tree_eq ["self", "other"]) (GE : FnOk P w K mg base CX0 2 mE.f mE.fd ["self", "other"] (spEqT K C)) : FnOk P w K mg base CX0 4 D.f D.fd ["one", "other"] (spCheckTrees C CM) := by
  refine D.F.ok sc_check_trees (fun vs H Q E h => ?_) (fun cdv A outer s H vs Q E hr h => ?_)
  · obtain ⟨m, m2, t, t2, rs, d, d2, ts, ts2, rfl, _⟩ := h
    rfl
  · obtain ⟨m, m2, t, t2, rs, d, d2, ts, ts2, rfl, hm, hm2, hq⟩ := h
    obtain ⟨dx, u, k, h1, h2, h3⟩ := hm.ex
    obtain ⟨dx2, u2, k2, g1, g2, g3⟩ := hm2.ex
    obtain ⟨tdx, _, _, _, _, _, t1, _⟩ := id hm.tree.ex
    obtain ⟨tdx2, _, _, _, _, _, t3, _⟩ := id hm2.tree.ex
    refine ⟨_, pss_one (ps_if (pt_cmpR (op_neC GE mE.m N.ne N.ob hr mE.b pass0) (pe_fld (pv 0) rfl) (pe_fld (pv 1) rfl) (nomark _)) (pss_one ps_never) pss_nil), ?_⟩
    refine ⟨_, rfl, m, CM, dx, _, _, rfl, h1, M.cl, M.nt, mf_t _ _ _ _, _, rfl, m2, CM, dx2, _, _, rfl, g1, M.cl, M.nt, mf_t _ _ _ _, t, tdx, _, .ref C, rfl, t1, .ins t3, nfC, t, _, rs, rfl, hm.tree, .inl ⟨t2, rs, rfl, hm2.tree, _, rfl, _, rfl, ?_⟩⟩
    exact iteF' (by simp) hq
abbrev nWith : List Str := ["tree", "values", "turns", "box"]
theorem sc_with : FnScope nWith ["tree", "values"] (defScope s_with_values) := ⟨rfl, rfl, rfl, by decide +kernel, rfl, by decide +kernel, by decide +kernel⟩
theorem ok_with {fM : Addr} {fdM : FuncData} (D : DefAt K mg "with_values" s_with_values ["tree", "values"]) (TC : TxC K mg) (T : TxT K mg C) (M : TxM K mg CM)
    (MM : Mk K CM fM) (bM : Binds K fdM ["self", "tree", "default", "turns"] []) (GM : FnOk P w K mg base CX0 7 fM fdM ["self", "tree", "default", "turns"] (spMeaningInit K C CM))
    (mB : MethAt K C "below" "Tree.below" s_Tree_below ["self", "box"]) (GB : FnOk P w K mg base CX0 5 mB.f mB.fd ["self", "box"] (spListOf C belowL))
    (mF : MethAt K C "folder" "Tree.folder" s_Tree_folder ["self", "box"]) (GF : FnOk P w K mg base CX0 4 mF.f mF.fd ["self", "box"] (spGet C fun r => .str r.fo)) : FnOk P w K mg base CX0 9 D.f D.fd ["tree", "values"] (spWith C CM) := by
  obtain ⟨t1, gT⟩ := TC.top
  refine D.F.ok sc_with (fun vs H Q E h => ?_) (fun cdv A outer s H vs Q E hr h => ?_)
  · obtain ⟨t, vd, rs, v, rfl, _⟩ := h
    rfl
  · obtain ⟨t, vd, rs, v, rfl, ht, hvd, hlk, hq⟩ := h
    have hu := hu_of hr
    have hr4 : Room 5 _ := hr.mono (by decide)
    have hr3 : Room 4 _ := hr.mono (by decide)
    refine ⟨_, pss_cons (ps_setLc (i := 2) (own := [("box", 3)]) (g := gName 3) (tt := tTest (tOp rNe (tDGet (tVar 1) (tVar 3)) (tDGet (tVar 1) (tMeth C "folder" (spGet C fun r => .str r.fo) [] E0 (tVar 0) (tCons (tVar 3) tNil))))) (te := tVar 3) rfl sc_with.nd rfl rfl (sw_true rfl rfl rfl (by decide +kernel)) (pi_list (pe_meth (pv 0) T.cl mB.m GB hr4 mB.b .nil pass0 (pa_cons (pe_glob (by rfl) gT (v := .str ("top" : Str)) ⟨_, rfl⟩) pa_nil))) (blkOk_by (N := nWith) (sc := defScope s_with_values) (by decide +kernel))
        (fun _ _ _ _ _ => pg_name (i := 3) sc_with.nd rfl (Or.inl rfl)) (fun _ _ _ _ _ => by exact pts_one (pt_cmpR op_ne (pe_dget hu (pv 1) (pv 3) (fun _ _ => rfl)) (pe_dget hu (pv 1) (pe_meth (pv 0) T.cl mF.m GF hr3 mF.b .nil pass0 (pa_cons (pv 3) pa_nil)) (fun _ _ => rfl)) (nomark _))) (fun _ _ _ _ _ => pv 3))
      (pss_one (ps_ret (pe_make MM GM hr rfl M.g bM .nil pass0 (pa_cons (pv 0) (pa_cons (pe_dget hu (pv 1) (pe_glob (by rfl) gT (v := .str ("top" : Str)) ⟨_, rfl⟩) (fun _ _ => rfl)) (pa_cons (pv 2) pa_nil)))))), ?_⟩
    have hv := ht.val
    have l100 := ht.len
    obtain ⟨dx, q, f, k, p, qs, h1, _⟩ := id ht.ex
    have noB : (tf q f k p).lookup ("below" : Str) = none := tf_no _ _ _ _ (by decide +kernel) (by decide +kernel) (by decide +kernel) (by decide +kernel)
    have noF : (tf q f k p).lookup ("folder" : Str) = none := tf_no _ _ _ _ (by decide +kernel) (by decide +kernel) (by decide +kernel) (by decide +kernel)
    refine ⟨_, rfl, t, dx, _, rfl, h1, noB, t, ("top" : Str), rs, rfl, ht, .inl rfl, fun bl H2 hbl s2 e2 => ?_⟩
    rw [below_top hv] at e2
    refine ⟨bl, rfl, ⟨_, SqL.of e2⟩, fun D hD => ?_⟩
    refine lc_list (K := K) (a := bl) (xs := (names rs).map V.str) (fun i H' => Same H2 H' ∧ H' D = some (.lst ((((rs.take i).filter fun r => decide (v r.nm ≠ v r.fo)).map (·.nm)).map V.str))) ⟨Same.new hD, upd_same⟩ (fun i H' _ m => m.1.seq (SqL.of e2)) ?_ ?_
    · rintro i x H3 hxi ⟨s3, hD3⟩
      unfold names at hxi
      rw [List.getElem?_map, List.getElem?_map] at hxi
      obtain ⟨n1, hn1, rfl⟩ := Option.map_eq_some_iff.mp hxi
      obtain ⟨r, hr', rfl⟩ := Option.map_eq_some_iff.mp hn1
      have hrm := List.mem_of_getElem? hr'
      have s23 := s2.trans s3
      have dg := DGet.k (k := Sum.inr r.nm) (s23 _ _ hvd)
      rw [valV_kvG v (nm_plc hrm)] at dg
      have dg2 := DGet.k (k := Sum.inr r.fo) (s23 _ _ hvd)
      rw [valV_kvG v (fo_plc hv hrm)] at dg2
      have szD : (((rs.take i).filter fun r => decide (v r.nm ≠ v r.fo)).map (·.nm)).length ≤ 1000 := by
        rw [List.length_map]
        have h1 := List.length_filter_le (fun r : Row => decide (v r.nm ≠ v r.fo)) (rs.take i)
        rw [List.length_take] at h1
        omega
      refine ⟨rfl, _, rfl, _, rfl, vd, _, rfl, dg, _, rfl, _, rfl, t, dx, _, rfl, s23 _ _ h1, noF, _, rfl, t, r.nm, rs, r, rfl, ht.same s23, rowOf_at hv hr', vd, _, rfl, dg2, rfl, _, rfl, ?_⟩
      have e0 : (!decide (V.bl (v r.nm) = V.bl (v r.fo))) = decide (v r.nm ≠ v r.fo) := by
        cases v r.nm <;> cases v r.fo <;> rfl
      rw [e0]
      refine ite2 (fun hc => ?_) (fun hc => ?_)
      · refine ⟨_, rfl, _, hD3, by rw [List.length_map]; exact small1000 szD, fun b o eb => ?_, ?_⟩
        · rw [upd_ne (fun y => by rw [y, hD] at eb; cases eb)]
          exact s3 _ _ eb
        · rw [upd_same, filter_take hr', if_pos hc, List.map_append]; rfl
      · refine ⟨s3, ?_⟩
        rw [filter_take hr', if_neg hc, List.append_nil]
        exact hD3
    rintro H3 ⟨s3, hD3⟩
    rw [show ((names rs).map V.str).length = rs.length from by unfold names; rw [List.length_map, List.length_map], List.take_length] at hD3
    have s23 := s2.trans s3
    have dgt := DGet.k (k := Sum.inr ("top" : Str)) (s23 _ _ hvd)
    rw [valV_kvG v (mem_plc.mpr (.inl rfl))] at dgt
    refine ⟨_, rfl, _, rfl, vd, _, rfl, dgt, _, rfl, ?_⟩
    have fr : ∀ z ∈ turnsG rs v, Free rs z := fun z hz => by
      obtain ⟨r, hr, rfl⟩ := List.mem_map.mp hz
      rw [List.mem_filter, decide_eq_true_eq] at hr
      obtain ⟨i, hi, e⟩ := List.mem_iff_getElem.mp hr.1
      exact ⟨r, rowOf_at hv (by rw [← e]; exact List.getElem?_eq_getElem hi), fun q => hr.2 (hlk r hr.1 q)⟩
    refine fun m dm nm nd _ => ⟨m, dm, t, D, v "top", turnsG rs v, rs, rfl, upd_same, (ht.same s23).same (mk_same0 nm nd), SqX.same (.inl (SqL.of hD3)) (mk_same0 nm nd), fr, fun H4 sb4 hm => ⟨rfl, ?_⟩⟩
    rw [turnsL_sub hv (turnsG_sub rs v)] at hm
    exact hq m H4 (s23.trans (mk_same nm nd sb4)) ⟨⟨_, _, hm, val_turnsG hv v⟩, hlk⟩
theorem sc_M_xor : FnScope ["self", "other", "box"] ["self", "other"] (defScope s_Meaning_xor) := ⟨rfl, rfl, rfl, by decide +kernel, rfl, by decide +kernel, by decide +kernel⟩
theorem ok_M_xor {f : Addr} {fd : FuncData} (F : Fun K "__xor__" "Meaning.__xor__" s_Meaning_xor f fd) (M : TxM K mg CM) (Dc : DefAt K mg "check_trees" s_check_trees ["one", "other"]) (Gc : FnOk P w K mg base CX0 4 Dc.f Dc.fd ["one", "other"] (spCheckTrees C CM))
    (Dw : DefAt K mg "with_values" s_with_values ["tree", "values"]) (Gw : FnOk P w K mg base CX0 9 Dw.f Dw.fd ["tree", "values"] (spWith C CM)) : FnOk P w K mg base CX0 10 f fd ["self", "other"] (spBin C CM fun a b => a != b) := by
  refine F.ok sc_M_xor (fun vs H Q E h => ?_) (fun cdv A outer s H vs Q E hr h => ?_)
  · obtain ⟨m, m2, t, t2, rs, v, w', rfl, _⟩ := h
    rfl
  · obtain ⟨m, m2, t, t2, rs, v, w', rfl, hm, hm2, hq⟩ := h
    have hu := hu_of hr
    have hr3 : Room 4 _ := hr.mono (by decide)
    have hv := hm.valid
    have hl := hm.turns.tree.len
    obtain ⟨dx, u, k, h1, h2, h3⟩ := hm.turns.ex
    obtain ⟨dx2, u2, k2, g1, g2, g3⟩ := hm2.turns.ex
    rw [kvM_kvG hv (val_turnsG hv v)] at h3
    rw [kvM_kvG hv (val_turnsG hv w')] at g3
    refine ⟨_, pss_cons (ps_expr (pe_call Gc hr3 rfl Dc.g Dc.F.kp Dc.b .nil pass0 (pa_cons (pv 0) (pa_cons (pv 1) pa_nil))))
      (pss_one (ps_ret (pe_call Gw hr rfl Dw.g Dw.F.kp Dw.b .nil pass0 (pa_cons (pe_fld (pv 0) rfl) (pa_cons (pe_lock (pe_dc (own := [("box", 2)]) (g := gName 2) (tt := tYes) (tk := tVar 2) (tv := tOp rNe (tDGet (tFld K (tVar 0) "known") (tVar 2)) (tDGet (tFld K (tVar 1) "known") (tVar 2))) rfl sc_M_xor.nd (pi_keys (pe_fld (pv 0) rfl)) (blkOk_by (N := ["self", "other", "box"]) (sc := defScope s_Meaning_xor) (by decide +kernel))
        (fun _ _ _ _ _ => pg_name (i := 2) sc_M_xor.nd rfl (Or.inl rfl)) (fun _ _ _ _ _ => pts_nil) (fun _ _ _ _ _ => pv 2) (fun _ _ _ _ _ => by exact pe_cmpR op_ne (pe_dget hu (pe_fld (pv 0) rfl) (pv 2) (fun _ _ => rfl)) (pe_dget hu (pe_fld (pv 1) rfl) (pv 2) (fun _ _ => rfl)) (nomark _)))) pa_nil))))), ?_⟩
    refine ⟨_, rfl, _, rfl, m, m2, t, t2, rs, _, _, _, _, rfl, hm.turns, hm2.turns, ?_⟩
    refine ⟨_, rfl, m, CM, dx, _, _, rfl, h1, M.cl, M.nt, mf_t _ _ _ _, ?_⟩
    refine ⟨k, _, h3, trivial, fun od => ?_⟩
    obtain ⟨Hl, El⟩ : ∃ Hx, Hx = upd H k (.frz od (.dK (kvG rs v))) := ⟨_, rfl⟩
    have lk : Hl k = some (.frz od (.dK (kvG rs v))) := by rw [El]; exact upd_same
    have l1 : Hl m = some (.ins CM dx (mf t u k (v "top"))) := by
      rw [El, upd_ne (fun e => by rw [e, h3] at h1; cases h1)]; exact h1
    have l2 : Hl m2 = some (.ins CM dx2 (mf t2 u2 k2 (w' "top"))) := by
      rw [El, upd_ne (fun e => by rw [e, h3] at g1; cases g1)]; exact g1
    have back : ∀ {H' : Hp}, Same Hl H' → Same H (upd H' k (.dK (kvG rs v))) := fun {H'} sl b o e => by
      by_cases q : b = k
      · rw [q, upd_same, ← e, q]; exact h3.symm
      · rw [upd_ne q]; exact sl _ _ (by rw [El, upd_ne q]; exact e)
    have lk2 : ∃ kv, Rd Hl k2 (.dK kv) ∧ kv = kvG rs w' := by
      by_cases q : k2 = k
      · rw [q] at g3
        rw [h3] at g3
        have e3 := HO.dK.inj (Option.some.inj g3)
        exact ⟨_, by rw [q]; exact .inr ⟨od, lk⟩, e3⟩
      · exact ⟨_, .inl (by rw [El, upd_ne q]; exact g3), rfl⟩
    obtain ⟨kv2, rd2, rfl⟩ := lk2
    rw [← El]
    clear El
    refine ⟨_, rfl, m, CM, dx, _, _, rfl, l1, M.cl, M.nk, mf_k _ _ _ _, k, od, rfl, .inl ⟨_, lk, fun D hD => ?_⟩⟩
    have nD : D ≠ k := (ne_of_none lk hD).symm
    have lp : (plc rs).length ≤ 101 := by unfold plc names; rw [List.length_cons, List.length_map]; omega
    refine dc_walk (walk_keys (d := k) (o := od) (kvs := kvG rs v)) (fun i H' => Same Hl H' ∧ H' D = some (.dK (((plc rs).take i).map fun z => ((.inr z : Key), V.bl ((fun a b => a != b) (v z) (w' z)))))) ⟨Same.new hD, upd_same⟩ (fun i H' _ m => m.1 _ _ lk) ?_ ?_
    · rintro i x H5x H5 hi ⟨s5, hD5⟩ ⟨rfl, k', v', hk, rfl⟩
      obtain ⟨z, rfl, hz⟩ := kvG_at hk
      have hzm := List.mem_of_getElem? hz
      have dg1 : DGet H5 k (.str z) (some (.bl (v z))) := .inl ⟨_, .inr z, .inr ⟨od, s5 _ _ lk⟩, rfl, (valV_kvG v hzm).symm⟩
      have dg2 : DGet H5 k2 (.str z) (some (.bl (w' z))) := .inl ⟨_, .inr z, rd2.imp (s5 _ _) (fun ⟨o, e⟩ => ⟨o, s5 _ _ e⟩), rfl, (valV_kvG w' hzm).symm⟩
      refine ⟨rfl, tYes_if ?_⟩
      refine ⟨_, rfl, _, rfl, m, CM, dx, _, _, rfl, s5 _ _ l1, M.cl, M.nk, mf_k _ _ _ _, _, rfl, k, _, rfl, dg1, _, rfl, m2, CM, dx2, _, _, rfl, s5 _ _ l2, M.cl, M.nk, mf_k _ _ _ _, _, rfl, k2, _, rfl, dg2, rfl, ?_⟩
      have e9 : (upd H5 D (.dK (putK (((plc rs).take i).map fun z => ((.inr z : Key), V.bl (v z != w' z))) (.inr z) (.bl (!decide (V.bl (v z) = V.bl (w' z))))))) D = some (.dK (((plc rs).take (i + 1)).map fun z => ((.inr z : Key), V.bl (v z != w' z)))) := by
        rw [upd_same, ← kvP_more (plc_nodup hv) (fun z => v z != w' z) hz]
        cases v z <;> cases w' z <;> rfl
      exact ⟨_, .inr z, rfl, hD5, small1000 (by rw [List.length_map, List.length_take]; omega), fun b o eb => by
          rw [upd_ne (fun y => by rw [y, hD] at eb; cases eb)]
          exact s5 _ _ eb, e9⟩
    rintro H5 ⟨s5, hD5⟩
    rw [kvG_len, List.take_length] at hD5
    refine ⟨s5 _ _ lk, ?_⟩
    have bk := back s5
    refine ⟨t, D, rs, fun z => (fun a b => a != b) (v z) (w' z), rfl, hm.turns.tree.same bk, by rw [upd_ne nD]; exact hD5, fun r hr q => ?_, fun m3 H6 s6 hm3 => hq m3 H6 (bk.trans s6) hm3⟩
    show (fun a b => a != b) (v r.nm) (w' r.nm) = (fun a b => a != b) (v r.fo) (w' r.fo)
    rw [hm.lk r hr q, hm2.lk r hr q]
theorem sc_M_and : FnScope ["self", "other", "box"] ["self", "other"] (defScope s_Meaning_and) := ⟨rfl, rfl, rfl, by decide +kernel, rfl, by decide +kernel, by decide +kernel⟩
theorem ok_M_and {f : Addr} {fd : FuncData} (F : Fun K "__and__" "Meaning.__and__" s_Meaning_and f fd) (M : TxM K mg CM) (Dc : DefAt K mg "check_trees" s_check_trees ["one", "other"]) (Gc : FnOk P w K mg base CX0 4 Dc.f Dc.fd ["one", "other"] (spCheckTrees C CM))
    (Dw : DefAt K mg "with_values" s_with_values ["tree", "values"]) (Gw : FnOk P w K mg base CX0 9 Dw.f Dw.fd ["tree", "values"] (spWith C CM)) : FnOk P w K mg base CX0 10 f fd ["self", "other"] (spBin C CM fun a b => a && b) := by
  refine F.ok sc_M_and (fun vs H Q E h => ?_) (fun cdv A outer s H vs Q E hr h => ?_)
  · obtain ⟨m, m2, t, t2, rs, v, w', rfl, _⟩ := h
    rfl
  · obtain ⟨m, m2, t, t2, rs, v, w', rfl, hm, hm2, hq⟩ := h
    have hu := hu_of hr
    have hr3 : Room 4 _ := hr.mono (by decide)
    have hv := hm.valid
    have hl := hm.turns.tree.len
    obtain ⟨dx, u, k, h1, h2, h3⟩ := hm.turns.ex
    obtain ⟨dx2, u2, k2, g1, g2, g3⟩ := hm2.turns.ex
    rw [kvM_kvG hv (val_turnsG hv v)] at h3
    rw [kvM_kvG hv (val_turnsG hv w')] at g3
    refine ⟨_, pss_cons (ps_expr (pe_call Gc hr3 rfl Dc.g Dc.F.kp Dc.b .nil pass0 (pa_cons (pv 0) (pa_cons (pv 1) pa_nil))))
      (pss_one (ps_ret (pe_call Gw hr rfl Dw.g Dw.F.kp Dw.b .nil pass0 (pa_cons (pe_fld (pv 0) rfl) (pa_cons (pe_lock (pe_dc (own := [("box", 2)]) (g := gName 2) (tt := tYes) (tk := tVar 2) (tv := tAndV (tDGet (tFld K (tVar 0) "known") (tVar 2)) (tDGet (tFld K (tVar 1) "known") (tVar 2))) rfl sc_M_and.nd (pi_keys (pe_fld (pv 0) rfl)) (blkOk_by (N := ["self", "other", "box"]) (sc := defScope s_Meaning_and) (by decide +kernel))
        (fun _ _ _ _ _ => pg_name (i := 2) sc_M_and.nd rfl (Or.inl rfl)) (fun _ _ _ _ _ => pts_nil) (fun _ _ _ _ _ => pv 2) (fun _ _ _ _ _ => by exact pe_and (pe_dget hu (pe_fld (pv 0) rfl) (pv 2) (fun _ _ => rfl)) (pe_one (pe_dget hu (pe_fld (pv 1) rfl) (pv 2) (fun _ _ => rfl)))))) pa_nil))))), ?_⟩
    refine ⟨_, rfl, _, rfl, m, m2, t, t2, rs, _, _, _, _, rfl, hm.turns, hm2.turns, ?_⟩
    refine ⟨_, rfl, m, CM, dx, _, _, rfl, h1, M.cl, M.nt, mf_t _ _ _ _, ?_⟩
    refine ⟨k, _, h3, trivial, fun od => ?_⟩
    obtain ⟨Hl, El⟩ : ∃ Hx, Hx = upd H k (.frz od (.dK (kvG rs v))) := ⟨_, rfl⟩
    have lk : Hl k = some (.frz od (.dK (kvG rs v))) := by rw [El]; exact upd_same
    have l1 : Hl m = some (.ins CM dx (mf t u k (v "top"))) := by
      rw [El, upd_ne (fun e => by rw [e, h3] at h1; cases h1)]; exact h1
    have l2 : Hl m2 = some (.ins CM dx2 (mf t2 u2 k2 (w' "top"))) := by
      rw [El, upd_ne (fun e => by rw [e, h3] at g1; cases g1)]; exact g1
    have back : ∀ {H' : Hp}, Same Hl H' → Same H (upd H' k (.dK (kvG rs v))) := fun {H'} sl b o e => by
      by_cases q : b = k
      · rw [q, upd_same, ← e, q]; exact h3.symm
      · rw [upd_ne q]; exact sl _ _ (by rw [El, upd_ne q]; exact e)
    have lk2 : ∃ kv, Rd Hl k2 (.dK kv) ∧ kv = kvG rs w' := by
      by_cases q : k2 = k
      · rw [q] at g3
        rw [h3] at g3
        have e3 := HO.dK.inj (Option.some.inj g3)
        exact ⟨_, by rw [q]; exact .inr ⟨od, lk⟩, e3⟩
      · exact ⟨_, .inl (by rw [El, upd_ne q]; exact g3), rfl⟩
    obtain ⟨kv2, rd2, rfl⟩ := lk2
    rw [← El]
    clear El
    refine ⟨_, rfl, m, CM, dx, _, _, rfl, l1, M.cl, M.nk, mf_k _ _ _ _, k, od, rfl, .inl ⟨_, lk, fun D hD => ?_⟩⟩
    have nD : D ≠ k := (ne_of_none lk hD).symm
    have lp : (plc rs).length ≤ 101 := by unfold plc names; rw [List.length_cons, List.length_map]; omega
    refine dc_walk (walk_keys (d := k) (o := od) (kvs := kvG rs v)) (fun i H' => Same Hl H' ∧ H' D = some (.dK (((plc rs).take i).map fun z => ((.inr z : Key), V.bl ((fun a b => a && b) (v z) (w' z)))))) ⟨Same.new hD, upd_same⟩ (fun i H' _ m => m.1 _ _ lk) ?_ ?_
    · rintro i x H5x H5 hi ⟨s5, hD5⟩ ⟨rfl, k', v', hk, rfl⟩
      obtain ⟨z, rfl, hz⟩ := kvG_at hk
      have hzm := List.mem_of_getElem? hz
      have dg1 : DGet H5 k (.str z) (some (.bl (v z))) := .inl ⟨_, .inr z, .inr ⟨od, s5 _ _ lk⟩, rfl, (valV_kvG v hzm).symm⟩
      have dg2 : DGet H5 k2 (.str z) (some (.bl (w' z))) := .inl ⟨_, .inr z, rd2.imp (s5 _ _) (fun ⟨o, e⟩ => ⟨o, s5 _ _ e⟩), rfl, (valV_kvG w' hzm).symm⟩
      refine ⟨rfl, tYes_if ⟨_, rfl, _, rfl, m, CM, dx, _, _, rfl, s5 _ _ l1, M.cl, M.nk, mf_k _ _ _ _, _, rfl, k, _, rfl, dg1, _, rfl, ?_⟩⟩
      have e9 : ∀ b : Bool, b = (v z && w' z) → (upd H5 D (.dK (putK (((plc rs).take i).map fun z => ((.inr z : Key), V.bl (v z && w' z))) (.inr z) (.bl b)))) D = some (.dK (((plc rs).take (i + 1)).map fun z => ((.inr z : Key), V.bl (v z && w' z)))) := fun b e => by
        rw [upd_same, e, ← kvP_more (plc_nodup hv) (fun z => v z && w' z) hz]
      refine ite2 (fun hc => ?_) (fun hc => ?_)
      · refine ⟨_, rfl, m2, CM, dx2, _, _, rfl, s5 _ _ l2, M.cl, M.nk, mf_k _ _ _ _, _, rfl, k2, _, rfl, dg2, ?_⟩
        refine ⟨_, .inr z, rfl, hD5, small1000 (by rw [List.length_map, List.length_take]; omega), fun b o eb => by
          rw [upd_ne (fun y => by rw [y, hD] at eb; cases eb)]
          exact s5 _ _ eb, e9 _ (by rw [hc]; rfl)⟩
      · have hc' : v z = false := by simpa using hc
        refine ⟨_, .inr z, rfl, hD5, small1000 (by rw [List.length_map, List.length_take]; omega), fun b o eb => by
          rw [upd_ne (fun y => by rw [y, hD] at eb; cases eb)]
          exact s5 _ _ eb, e9 false (by rw [hc']; rfl)⟩
    rintro H5 ⟨s5, hD5⟩
    rw [kvG_len, List.take_length] at hD5
    refine ⟨s5 _ _ lk, ?_⟩
    have bk := back s5
    refine ⟨t, D, rs, fun z => (fun a b => a && b) (v z) (w' z), rfl, hm.turns.tree.same bk, by rw [upd_ne nD]; exact hD5, fun r hr q => ?_, fun m3 H6 s6 hm3 => hq m3 H6 (bk.trans s6) hm3⟩
    show (fun a b => a && b) (v r.nm) (w' r.nm) = (fun a b => a && b) (v r.fo) (w' r.fo)
    rw [hm.lk r hr q, hm2.lk r hr q]
theorem sc_M_or : FnScope ["self", "other", "box"] ["self", "other"] (defScope s_Meaning_or) := ⟨rfl, rfl, rfl, by decide +kernel, rfl, by decide +kernel, by decide +kernel⟩
theorem ok_M_or {f : Addr} {fd : FuncData} (F : Fun K "__or__" "Meaning.__or__" s_Meaning_or f fd) (M : TxM K mg CM) (Dc : DefAt K mg "check_trees" s_check_trees ["one", "other"]) (Gc : FnOk P w K mg base CX0 4 Dc.f Dc.fd ["one", "other"] (spCheckTrees C CM))
    (Dw : DefAt K mg "with_values" s_with_values ["tree", "values"]) (Gw : FnOk P w K mg base CX0 9 Dw.f Dw.fd ["tree", "values"] (spWith C CM)) : FnOk P w K mg base CX0 10 f fd ["self", "other"] (spBin C CM fun a b => a || b) := by
  refine F.ok sc_M_or (fun vs H Q E h => ?_) (fun cdv A outer s H vs Q E hr h => ?_)
  · obtain ⟨m, m2, t, t2, rs, v, w', rfl, _⟩ := h
    rfl
  · obtain ⟨m, m2, t, t2, rs, v, w', rfl, hm, hm2, hq⟩ := h
    have hu := hu_of hr
    have hr3 : Room 4 _ := hr.mono (by decide)
    have hv := hm.valid
    have hl := hm.turns.tree.len
    obtain ⟨dx, u, k, h1, h2, h3⟩ := hm.turns.ex
    obtain ⟨dx2, u2, k2, g1, g2, g3⟩ := hm2.turns.ex
    rw [kvM_kvG hv (val_turnsG hv v)] at h3
    rw [kvM_kvG hv (val_turnsG hv w')] at g3
    refine ⟨_, pss_cons (ps_expr (pe_call Gc hr3 rfl Dc.g Dc.F.kp Dc.b .nil pass0 (pa_cons (pv 0) (pa_cons (pv 1) pa_nil))))
      (pss_one (ps_ret (pe_call Gw hr rfl Dw.g Dw.F.kp Dw.b .nil pass0 (pa_cons (pe_fld (pv 0) rfl) (pa_cons (pe_lock (pe_dc (own := [("box", 2)]) (g := gName 2) (tt := tYes) (tk := tVar 2) (tv := tOrV (tDGet (tFld K (tVar 0) "known") (tVar 2)) (tDGet (tFld K (tVar 1) "known") (tVar 2))) rfl sc_M_or.nd (pi_keys (pe_fld (pv 0) rfl)) (blkOk_by (N := ["self", "other", "box"]) (sc := defScope s_Meaning_or) (by decide +kernel))
        (fun _ _ _ _ _ => pg_name (i := 2) sc_M_or.nd rfl (Or.inl rfl)) (fun _ _ _ _ _ => pts_nil) (fun _ _ _ _ _ => pv 2) (fun _ _ _ _ _ => by exact pe_or (pe_dget hu (pe_fld (pv 0) rfl) (pv 2) (fun _ _ => rfl)) (pe_one (pe_dget hu (pe_fld (pv 1) rfl) (pv 2) (fun _ _ => rfl)))))) pa_nil))))), ?_⟩
    refine ⟨_, rfl, _, rfl, m, m2, t, t2, rs, _, _, _, _, rfl, hm.turns, hm2.turns, ?_⟩
    refine ⟨_, rfl, m, CM, dx, _, _, rfl, h1, M.cl, M.nt, mf_t _ _ _ _, ?_⟩
    refine ⟨k, _, h3, trivial, fun od => ?_⟩
    obtain ⟨Hl, El⟩ : ∃ Hx, Hx = upd H k (.frz od (.dK (kvG rs v))) := ⟨_, rfl⟩
    have lk : Hl k = some (.frz od (.dK (kvG rs v))) := by rw [El]; exact upd_same
    have l1 : Hl m = some (.ins CM dx (mf t u k (v "top"))) := by
      rw [El, upd_ne (fun e => by rw [e, h3] at h1; cases h1)]; exact h1
    have l2 : Hl m2 = some (.ins CM dx2 (mf t2 u2 k2 (w' "top"))) := by
      rw [El, upd_ne (fun e => by rw [e, h3] at g1; cases g1)]; exact g1
    have back : ∀ {H' : Hp}, Same Hl H' → Same H (upd H' k (.dK (kvG rs v))) := fun {H'} sl b o e => by
      by_cases q : b = k
      · rw [q, upd_same, ← e, q]; exact h3.symm
      · rw [upd_ne q]; exact sl _ _ (by rw [El, upd_ne q]; exact e)
    have lk2 : ∃ kv, Rd Hl k2 (.dK kv) ∧ kv = kvG rs w' := by
      by_cases q : k2 = k
      · rw [q] at g3
        rw [h3] at g3
        have e3 := HO.dK.inj (Option.some.inj g3)
        exact ⟨_, by rw [q]; exact .inr ⟨od, lk⟩, e3⟩
      · exact ⟨_, .inl (by rw [El, upd_ne q]; exact g3), rfl⟩
    obtain ⟨kv2, rd2, rfl⟩ := lk2
    rw [← El]
    clear El
    refine ⟨_, rfl, m, CM, dx, _, _, rfl, l1, M.cl, M.nk, mf_k _ _ _ _, k, od, rfl, .inl ⟨_, lk, fun D hD => ?_⟩⟩
    have nD : D ≠ k := (ne_of_none lk hD).symm
    have lp : (plc rs).length ≤ 101 := by unfold plc names; rw [List.length_cons, List.length_map]; omega
    refine dc_walk (walk_keys (d := k) (o := od) (kvs := kvG rs v)) (fun i H' => Same Hl H' ∧ H' D = some (.dK (((plc rs).take i).map fun z => ((.inr z : Key), V.bl ((fun a b => a || b) (v z) (w' z)))))) ⟨Same.new hD, upd_same⟩ (fun i H' _ m => m.1 _ _ lk) ?_ ?_
    · rintro i x H5x H5 hi ⟨s5, hD5⟩ ⟨rfl, k', v', hk, rfl⟩
      obtain ⟨z, rfl, hz⟩ := kvG_at hk
      have hzm := List.mem_of_getElem? hz
      have dg1 : DGet H5 k (.str z) (some (.bl (v z))) := .inl ⟨_, .inr z, .inr ⟨od, s5 _ _ lk⟩, rfl, (valV_kvG v hzm).symm⟩
      have dg2 : DGet H5 k2 (.str z) (some (.bl (w' z))) := .inl ⟨_, .inr z, rd2.imp (s5 _ _) (fun ⟨o, e⟩ => ⟨o, s5 _ _ e⟩), rfl, (valV_kvG w' hzm).symm⟩
      refine ⟨rfl, tYes_if ⟨_, rfl, _, rfl, m, CM, dx, _, _, rfl, s5 _ _ l1, M.cl, M.nk, mf_k _ _ _ _, _, rfl, k, _, rfl, dg1, _, rfl, ?_⟩⟩
      have e9 : ∀ b : Bool, b = (v z || w' z) → (upd H5 D (.dK (putK (((plc rs).take i).map fun z => ((.inr z : Key), V.bl (v z || w' z))) (.inr z) (.bl b)))) D = some (.dK (((plc rs).take (i + 1)).map fun z => ((.inr z : Key), V.bl (v z || w' z)))) := fun b e => by
        rw [upd_same, e, ← kvP_more (plc_nodup hv) (fun z => v z || w' z) hz]
      refine ite2 (fun hc => ?_) (fun hc => ?_)
      · refine ⟨_, .inr z, rfl, hD5, small1000 (by rw [List.length_map, List.length_take]; omega), fun b o eb => by
          rw [upd_ne (fun y => by rw [y, hD] at eb; cases eb)]
          exact s5 _ _ eb, e9 true (by rw [hc]; rfl)⟩
      · have hc' : v z = false := by simpa using hc
        refine ⟨_, rfl, m2, CM, dx2, _, _, rfl, s5 _ _ l2, M.cl, M.nk, mf_k _ _ _ _, _, rfl, k2, _, rfl, dg2, ?_⟩
        refine ⟨_, .inr z, rfl, hD5, small1000 (by rw [List.length_map, List.length_take]; omega), fun b o eb => by
          rw [upd_ne (fun y => by rw [y, hD] at eb; cases eb)]
          exact s5 _ _ eb, e9 _ (by rw [hc']; rfl)⟩
    rintro H5 ⟨s5, hD5⟩
    rw [kvG_len, List.take_length] at hD5
    refine ⟨s5 _ _ lk, ?_⟩
    have bk := back s5
    refine ⟨t, D, rs, fun z => (fun a b => a || b) (v z) (w' z), rfl, hm.turns.tree.same bk, by rw [upd_ne nD]; exact hD5, fun r hr q => ?_, fun m3 H6 s6 hm3 => hq m3 H6 (bk.trans s6) hm3⟩
    show (fun a b => a || b) (v r.nm) (w' r.nm) = (fun a b => a || b) (v r.fo) (w' r.fo)
    rw [hm.lk r hr q, hm2.lk r hr q]
theorem sc_M_sub : FnScope ["self", "other", "box"] ["self", "other"] (defScope s_Meaning_sub) := ⟨rfl, rfl, rfl, by decide +kernel, rfl, by decide +kernel, by decide +kernel⟩
theorem ok_M_sub {f : Addr} {fd : FuncData} (F : Fun K "__sub__" "Meaning.__sub__" s_Meaning_sub f fd) (M : TxM K mg CM) (Dc : DefAt K mg "check_trees" s_check_trees ["one", "other"]) (Gc : FnOk P w K mg base CX0 4 Dc.f Dc.fd ["one", "other"] (spCheckTrees C CM))
    (Dw : DefAt K mg "with_values" s_with_values ["tree", "values"]) (Gw : FnOk P w K mg base CX0 9 Dw.f Dw.fd ["tree", "values"] (spWith C CM)) : FnOk P w K mg base CX0 10 f fd ["self", "other"] (spBin C CM fun a b => a && !b) := by
  refine F.ok sc_M_sub (fun vs H Q E h => ?_) (fun cdv A outer s H vs Q E hr h => ?_)
  · obtain ⟨m, m2, t, t2, rs, v, w', rfl, _⟩ := h
    rfl
  · obtain ⟨m, m2, t, t2, rs, v, w', rfl, hm, hm2, hq⟩ := h
    have hu := hu_of hr
    have hr3 : Room 4 _ := hr.mono (by decide)
    have hv := hm.valid
    have hl := hm.turns.tree.len
    obtain ⟨dx, u, k, h1, h2, h3⟩ := hm.turns.ex
    obtain ⟨dx2, u2, k2, g1, g2, g3⟩ := hm2.turns.ex
    rw [kvM_kvG hv (val_turnsG hv v)] at h3
    rw [kvM_kvG hv (val_turnsG hv w')] at g3
    refine ⟨_, pss_cons (ps_expr (pe_call Gc hr3 rfl Dc.g Dc.F.kp Dc.b .nil pass0 (pa_cons (pv 0) (pa_cons (pv 1) pa_nil))))
      (pss_one (ps_ret (pe_call Gw hr rfl Dw.g Dw.F.kp Dw.b .nil pass0 (pa_cons (pe_fld (pv 0) rfl) (pa_cons (pe_lock (pe_dc (own := [("box", 2)]) (g := gName 2) (tt := tYes) (tk := tVar 2) (tv := tAndV (tDGet (tFld K (tVar 0) "known") (tVar 2)) (tNotV (tDGet (tFld K (tVar 1) "known") (tVar 2)))) rfl sc_M_sub.nd (pi_keys (pe_fld (pv 0) rfl)) (blkOk_by (N := ["self", "other", "box"]) (sc := defScope s_Meaning_sub) (by decide +kernel))
        (fun _ _ _ _ _ => pg_name (i := 2) sc_M_sub.nd rfl (Or.inl rfl)) (fun _ _ _ _ _ => pts_nil) (fun _ _ _ _ _ => pv 2) (fun _ _ _ _ _ => by exact pe_and (pe_dget hu (pe_fld (pv 0) rfl) (pv 2) (fun _ _ => rfl)) (pe_one (pe_not (pe_dget hu (pe_fld (pv 1) rfl) (pv 2) (fun _ _ => rfl))))))) pa_nil))))), ?_⟩
    refine ⟨_, rfl, _, rfl, m, m2, t, t2, rs, _, _, _, _, rfl, hm.turns, hm2.turns, ?_⟩
    refine ⟨_, rfl, m, CM, dx, _, _, rfl, h1, M.cl, M.nt, mf_t _ _ _ _, ?_⟩
    refine ⟨k, _, h3, trivial, fun od => ?_⟩
    obtain ⟨Hl, El⟩ : ∃ Hx, Hx = upd H k (.frz od (.dK (kvG rs v))) := ⟨_, rfl⟩
    have lk : Hl k = some (.frz od (.dK (kvG rs v))) := by rw [El]; exact upd_same
    have l1 : Hl m = some (.ins CM dx (mf t u k (v "top"))) := by
      rw [El, upd_ne (fun e => by rw [e, h3] at h1; cases h1)]; exact h1
    have l2 : Hl m2 = some (.ins CM dx2 (mf t2 u2 k2 (w' "top"))) := by
      rw [El, upd_ne (fun e => by rw [e, h3] at g1; cases g1)]; exact g1
    have back : ∀ {H' : Hp}, Same Hl H' → Same H (upd H' k (.dK (kvG rs v))) := fun {H'} sl b o e => by
      by_cases q : b = k
      · rw [q, upd_same, ← e, q]; exact h3.symm
      · rw [upd_ne q]; exact sl _ _ (by rw [El, upd_ne q]; exact e)
    have lk2 : ∃ kv, Rd Hl k2 (.dK kv) ∧ kv = kvG rs w' := by
      by_cases q : k2 = k
      · rw [q] at g3
        rw [h3] at g3
        have e3 := HO.dK.inj (Option.some.inj g3)
        exact ⟨_, by rw [q]; exact .inr ⟨od, lk⟩, e3⟩
      · exact ⟨_, .inl (by rw [El, upd_ne q]; exact g3), rfl⟩
    obtain ⟨kv2, rd2, rfl⟩ := lk2
    rw [← El]
    clear El
    refine ⟨_, rfl, m, CM, dx, _, _, rfl, l1, M.cl, M.nk, mf_k _ _ _ _, k, od, rfl, .inl ⟨_, lk, fun D hD => ?_⟩⟩
    have nD : D ≠ k := (ne_of_none lk hD).symm
    have lp : (plc rs).length ≤ 101 := by unfold plc names; rw [List.length_cons, List.length_map]; omega
    refine dc_walk (walk_keys (d := k) (o := od) (kvs := kvG rs v)) (fun i H' => Same Hl H' ∧ H' D = some (.dK (((plc rs).take i).map fun z => ((.inr z : Key), V.bl ((fun a b => a && !b) (v z) (w' z)))))) ⟨Same.new hD, upd_same⟩ (fun i H' _ m => m.1 _ _ lk) ?_ ?_
    · rintro i x H5x H5 hi ⟨s5, hD5⟩ ⟨rfl, k', v', hk, rfl⟩
      obtain ⟨z, rfl, hz⟩ := kvG_at hk
      have hzm := List.mem_of_getElem? hz
      have dg1 : DGet H5 k (.str z) (some (.bl (v z))) := .inl ⟨_, .inr z, .inr ⟨od, s5 _ _ lk⟩, rfl, (valV_kvG v hzm).symm⟩
      have dg2 : DGet H5 k2 (.str z) (some (.bl (w' z))) := .inl ⟨_, .inr z, rd2.imp (s5 _ _) (fun ⟨o, e⟩ => ⟨o, s5 _ _ e⟩), rfl, (valV_kvG w' hzm).symm⟩
      refine ⟨rfl, tYes_if ⟨_, rfl, _, rfl, m, CM, dx, _, _, rfl, s5 _ _ l1, M.cl, M.nk, mf_k _ _ _ _, _, rfl, k, _, rfl, dg1, _, rfl, ?_⟩⟩
      have e9 : ∀ b : Bool, b = (v z && !(w' z)) → (upd H5 D (.dK (putK (((plc rs).take i).map fun z => ((.inr z : Key), V.bl (v z && !(w' z)))) (.inr z) (.bl b)))) D = some (.dK (((plc rs).take (i + 1)).map fun z => ((.inr z : Key), V.bl (v z && !(w' z))))) := fun b e => by
        rw [upd_same, e, ← kvP_more (plc_nodup hv) (fun z => v z && !(w' z)) hz]
      refine ite2 (fun hc => ?_) (fun hc => ?_)
      · refine ⟨_, rfl, m2, CM, dx2, _, _, rfl, s5 _ _ l2, M.cl, M.nk, mf_k _ _ _ _, _, rfl, k2, _, rfl, dg2, _, rfl, ?_⟩
        refine ⟨_, .inr z, rfl, hD5, small1000 (by rw [List.length_map, List.length_take]; omega), fun b o eb => by
          rw [upd_ne (fun y => by rw [y, hD] at eb; cases eb)]
          exact s5 _ _ eb, e9 _ (by rw [hc]; rfl)⟩
      · have hc' : v z = false := by simpa using hc
        refine ⟨_, .inr z, rfl, hD5, small1000 (by rw [List.length_map, List.length_take]; omega), fun b o eb => by
          rw [upd_ne (fun y => by rw [y, hD] at eb; cases eb)]
          exact s5 _ _ eb, e9 false (by rw [hc']; rfl)⟩
    rintro H5 ⟨s5, hD5⟩
    rw [kvG_len, List.take_length] at hD5
    refine ⟨s5 _ _ lk, ?_⟩
    have bk := back s5
    refine ⟨t, D, rs, fun z => (fun a b => a && !b) (v z) (w' z), rfl, hm.turns.tree.same bk, by rw [upd_ne nD]; exact hD5, fun r hr q => ?_, fun m3 H6 s6 hm3 => hq m3 H6 (bk.trans s6) hm3⟩
    show (fun a b => a && !b) (v r.nm) (w' r.nm) = (fun a b => a && !b) (v r.fo) (w' r.fo)
    rw [hm.lk r hr q, hm2.lk r hr q]
theorem sc_M_invert : FnScope ["self"] ["self"] (defScope s_Meaning_invert) := ⟨rfl, rfl, rfl, by decide +kernel, rfl, by decide +kernel, by decide +kernel⟩
theorem ok_M_invert {fM f : Addr} {fdM fd : FuncData} (F : Fun K "__invert__" "Meaning.__invert__" s_Meaning_invert f fd) (M : TxM K mg CM)
    (MM : Mk K CM fM) (bM : Binds K fdM ["self", "tree", "default", "turns"] []) (GM : FnOk P w K mg base CX0 7 fM fdM ["self", "tree", "default", "turns"] (spMeaningInit K C CM)) : FnOk P w K mg base CX0 9 f fd ["self"] (spInv C CM) := by
  refine F.ok sc_M_invert (fun vs H Q E h => ?_) (fun cdv A outer s H vs Q E hr h => ?_)
  · obtain ⟨m, t, rs, v, rfl, _⟩ := h
    rfl
  · obtain ⟨m, t, rs, v, rfl, hm, hq⟩ := h
    have hv := hm.valid
    obtain ⟨dx, u, k, h1, h2, h3⟩ := hm.turns.ex
    refine ⟨_, pss_one (ps_ret (pe_make MM GM hr rfl M.g bM .nil pass0 (pa_cons (pe_fld (pv 0) rfl) (pa_cons (pe_not (pe_fld (pv 0) rfl)) (pa_cons (pe_fld (pv 0) rfl) pa_nil))))), ?_⟩
    refine ⟨_, rfl, m, CM, dx, _, _, rfl, h1, M.cl, M.nt, mf_t _ _ _ _, _, rfl, m, CM, dx, _, _, rfl, h1, M.cl, M.nd, mf_d _ _ _ _, _, rfl, _, rfl, m, CM, dx, _, _, rfl, h1, M.cl, M.nu, mf_u _ _ _ _, ?_⟩
    refine fun m3 dm nm nd _ => ⟨m3, dm, t, u, !(v "top"), turnsG rs v, rs, rfl, upd_same, hm.turns.tree.same (mk_same0 nm nd), SqX.same (.inr (sqT h2)) (mk_same0 nm nd), hm.free, fun H4 sb4 hm4 => ⟨rfl, ?_⟩⟩
    rw [turnsL_sub hv (turnsG_sub rs v)] at hm4
    refine hq m3 H4 (mk_same nm nd sb4) ⟨⟨_, _, hm4, fun z hz => ?_⟩, fun r hr q => ?_⟩
    · show turned (!(v "top")) (turnsG rs v) (wayOf rs z) = !(v z)
      rw [turned_not, ← val_turnsG hv v z hz]
      rfl
    · show (!(v r.nm)) = !(v r.fo)
      rw [hm.lk r hr q]
end
end Ts

set_option maxRecDepth 100000
set_option maxHeartbeats 4000000
namespace Ts
open PySem L2
section
variable {P : Program} {w : World} {K : PySem.W.Frag} {mg : Str → Option Value} {base : Heap} {CC : Addr}
theorem sc_NoBox_init : FnScope ["self", "box"] ["self", "box"] (defScope s_NoBox_init) := ⟨rfl, rfl, rfl, by decide +kernel, rfl, by decide +kernel, by decide +kernel⟩
theorem ok_NoBox_init {f : Addr} {fd : FuncData} (F : Fun K "__init__" "NoBox.__init__" s_NoBox_init f fd) (O : OexC K CC) (nb : PySem.W.findIn K (.ref CC) "box" = some none) : FnOk P w K mg base CX0 2 f fd ["self", "box"] (spErr1 CC "box") := by
  refine F.ok sc_NoBox_init (fun vs H Q E h => ?_) (fun cdv A outer s H vs Q E hr h => ?_)
  · obtain ⟨a, x, rfl, _⟩ := h
    rfl
  · obtain ⟨a, x, rfl, ha, hq⟩ := h
    refine ⟨_, pss_one (ps_ost (pv 0) (pv 1)), ?_⟩
    exact ⟨_, rfl, _, rfl, a, CC, rfl, O, nb, .inl ⟨ha, fun d hd ne => hq d hd ne⟩⟩
end
end Ts

set_option maxRecDepth 100000
set_option maxHeartbeats 4000000
namespace Ts
open PySem L2
/-! ### what is told of the ends -/
theorem iteT' {c : Bool} {A B : Prop} (h : c = true) (a : A) : if c = true then A else B := by rw [h]; exact a
def dfV (d : Option Bool) : V := match d with
  | none => .non
  | some b => .bl b
theorem kvE_at {es : Wsh} {i : Nat} {kv : Key × V} (h : (kvE es)[i]? = some kv) : ∃ e, kv = (.inr e.1, .bl e.2) ∧ es[i]? = some e := by
  unfold kvE at h
  rw [List.getElem?_map] at h
  obtain ⟨e, he, x⟩ := Option.map_eq_some_iff.mp h
  exact ⟨e, x.symm, he⟩
theorem kvE_len (es : Wsh) : (kvE es).length = es.length := List.length_map ..
/-- a dict of truths that is locked is none of a tree's -/
theorem TreeAt.lockE {C : Addr} {H : Hp} {t d : Addr} {rs : List Row} {es : Wsh} {o : HO} (h : TreeAt C H t rs) (hd : H d = some (.dK (kvE es))) (hl : es ≠ []) : TreeAt C (upd H d o) t rs := by
  obtain ⟨dx, q, f, k, p, qs, h1, h2, h3, h4, h5, h6⟩ := h.ex
  have n1 : ∀ {b : Addr} {u : HO}, H b = some u → (∀ m, u ≠ .dK m) → b ≠ d := fun {b u} hb hu q => by
    rw [q, hd] at hb
    exact hu _ (Option.some.inj hb).symm
  have n2 : ∀ {b : Addr} (g : Row → V), H b = some (.dK (kvF g rs)) → (∀ r x, g r ≠ V.bl x) → b ≠ d := fun {b} g hb hg q => by
    rw [q, hd] at hb
    have e := HO.dK.inj (Option.some.inj hb)
    cases es with
    | nil => exact hl rfl
    | cons z L =>
      cases rs with
      | nil => cases e
      | cons r rs =>
        have e2 := congrArg (fun l => l.head?) e
        have e3 := (Prod.mk.inj (Option.some.inj e2)).2
        exact hg r _ e3.symm
  have np : ∀ (r : Row) (x : Bool), prV r.pr ≠ V.bl x := fun r x => by cases r.pr <;> exact fun e => nomatch e
  exact ⟨⟨dx, q, f, k, p, qs, by rw [upd_ne (n1 h1 (fun _ e => nomatch e))]; exact h1, by rw [upd_ne (n1 h2 (fun _ e => nomatch e))]; exact h2, ⟨h3.len, fun i b r hb hr => by rw [upd_ne (n1 (h3.at_ i b r hb hr) (fun _ e => nomatch e))]; exact h3.at_ i b r hb hr⟩, by rw [upd_ne (n2 _ h4 (fun _ _ e => nomatch e))]; exact h4, by rw [upd_ne (n2 _ h5 (fun _ _ e => nomatch e))]; exact h5, by rw [upd_ne (n2 _ h6 np)]; exact h6⟩, h.val, h.len⟩
def spCheckWish (C : Addr) : Sp := fun vs H Q _ => ∃ (t wd : Addr) (rs : List Row) (es : Wsh), vs = [.ref t, .ref wd] ∧ TreeAt C H t rs ∧ H wd = some (.dK (kvE es)) ∧ EndsOk rs es ∧ ∀ H', Same H H' → Q .non H'
def spEndsOf (C : Addr) : Sp := fun vs H Q _ => ∃ (t wd : Addr) (rs : List Row) (es : Wsh) (d : Option Bool), vs = [.ref t, .ref wd, dfV d] ∧ TreeAt C H t rs ∧ H wd = some (.dK (kvE es)) ∧ EndsOk rs es ∧ es.length ≤ 150 ∧
  ∀ D H', H D = none → Same H H' → H' D = some (.dK (kvE (topE d es))) → Q (.ref D) H'
def spAbove (C : Addr) : Sp := fun vs H Q _ => ∃ (t : Addr) (z : Str) (rs : List Row), vs = [.ref t, .str z] ∧ TreeAt C H t rs ∧ z ∈ plc rs ∧ Q (.str (lockR rs z)) H
/-- two ends of unlike values with locked steps alone between -/
def BarE (rs : List Row) (es : Wsh) (x y : Str) : Prop := (x, true) ∈ es ∧ (y, false) ∈ es ∧ lockR rs x = lockR rs y
def spBarred (C CB : Addr) : Sp := fun vs H Q E => ∃ (t ed : Addr) (rs : List Row) (es : Wsh), vs = [.ref t, .ref ed] ∧ TreeAt C H t rs ∧ H ed = some (.dK (kvE es)) ∧ EndsOk rs es ∧
  (OpenE rs es → ∀ H', Same H H' → Q .non H') ∧ ∀ x y, BarE rs es x y → ∀ d H', H d = none → SB ed H H' → H' d = some (.xd [("other", .str y), ("one", .str x)]) → E (.ref CB) (some d) H'
/-- what a wish with a default is barred by -/
def BarW (rs : List Row) (es : Wsh) (d : Option Bool) (x y : Str) : Prop := (x = ("top" : Str) ∧ y = ("top" : Str) ∧ ∃ b, endO es "top" = some b ∧ d = some (!b)) ∨ ((∀ b, endO es "top" = some b → d ≠ some (!b)) ∧ BarE rs (topE d es) x y)
def OkW (rs : List Row) (es : Wsh) (d : Option Bool) : Prop := (∀ b, endO es "top" = some b → d ≠ some (!b)) ∧ OpenE rs (topE d es)
def spOpenEnds (C CB : Addr) : Sp := fun vs H Q E => ∃ (t wd : Addr) (rs : List Row) (es : Wsh) (d : Option Bool), vs = [.ref t, .ref wd, dfV d] ∧ TreeAt C H t rs ∧ H wd = some (.dK (kvE es)) ∧ EndsOk rs es ∧ es.length ≤ 150 ∧
  (OkW rs es d → ∀ D H', H D = none → Same H H' → H' D = some (.dK (kvE (topE d es))) → Q (.ref D) H') ∧ ∀ x y, BarW rs es d x y → ∀ e H', H e = none → Same H H' → H' e = some (.xd [("other", .str y), ("one", .str x)]) → E (.ref CB) (some e) H'
def firstE (rs : List Row) (l : Wsh) (ρ : Str) : Option (Str × Bool) := l.find? fun e => decide (lockR rs e.1 = ρ)
theorem firstE_snoc (rs : List Row) (l : Wsh) (e : Str × Bool) (ρ : Str) : firstE rs (l ++ [e]) ρ = (firstE rs l ρ).or (if lockR rs e.1 = ρ then some e else none) := by
  unfold firstE
  rw [List.find?_append]
  congr 1
  rw [List.find?_cons]
  by_cases q : lockR rs e.1 = ρ
  · rw [decide_eq_true q, if_pos q]
  · rw [decide_eq_false q, if_neg q]; rfl
section
variable {P : Program} {w : World} {K : PySem.W.Frag} {mg : Str → Option Value} {base : Heap} {C CB : Addr}
abbrev nCW : List Str := ["tree", "wish", "place", "value"]
theorem sc_check_wish : FnScope nCW ["tree", "wish"] (defScope s_check_wish) := ⟨rfl, rfl, rfl, by decide +kernel, rfl, by decide +kernel, by decide +kernel⟩
theorem ok_check_wish (D : DefAt K mg "check_wish" s_check_wish ["tree", "wish"]) (B : TxB mg) (Di : DefAt K mg "is_place" s_is_place ["tree", "thing"]) (Gi : FnOk P w K mg base CX0 3 Di.f Di.fd ["tree", "thing"] (spIsPlace C)) : FnOk P w K mg base CX0 4 D.f D.fd ["tree", "wish"] (spCheckWish C) := by
  refine D.F.ok sc_check_wish (fun vs H Q E h => ?_) (fun cdv A outer s H vs Q E hr h => ?_)
  · obtain ⟨t, wd, rs, es, rfl, _⟩ := h
    rfl
  · obtain ⟨t, wd, rs, es, rfl, ht, hd, hok, hq⟩ := h
    refine ⟨_, pss_one (ps_lock (ps_for PassesOwn.never rfl (pi_items (pv 1)) (pg_tup rfl (pgs_cons (pg_name (i := 2) sc_check_wish.nd rfl (.inl rfl)) (pgs_cons (pg_name (i := 3) sc_check_wish.nd rfl (.inl rfl)) pgs_nil)))
        (pss_one (ps_if (PW.pt (pw_or (pt_not (pt_val (pe_call Gi hr rfl Di.g Di.F.kp Di.b .nil pass0 (pa_cons (pv 0) (pa_cons (pv 2) pa_nil))))) (pw_or1 (pt_not (pt_val (pe_callB call_isi (by rfl) B.isinstance (by decide +kernel) (pa_cons (pv 3) (pa_cons (pe_bltn (by rfl) B.bool (by decide +kernel) (v := .ty "bool") rfl) pa_nil)))))))) (pss_one ps_never) pss_nil)))), ?_⟩
    refine ⟨wd, _, hd, trivial, fun od => ?_⟩
    obtain ⟨Hl, El⟩ : ∃ Hx, Hx = upd H wd (.frz od (.dK (kvE es))) := ⟨_, rfl⟩
    have lk : Hl wd = some (.frz od (.dK (kvE es))) := by rw [El]; exact upd_same
    have back : ∀ H', Same Hl H' → Same H (upd H' wd (.dK (kvE es))) := fun H' s b o e => by
      by_cases q : b = wd
      · rw [q, upd_same, ← e, q]; exact hd.symm
      · rw [upd_ne q]; exact s _ _ (by rw [El, upd_ne q]; exact e)
    have tl : es ≠ [] → TreeAt C Hl t rs := fun h => by rw [El]; exact ht.lockE hd h
    rw [← El]
    clear El
    refine ⟨_, rfl, wd, od, _, rfl, lk, ?_⟩
    refine for_it (walk_items (d := wd) (o := od) (kvs := kvE es)) (fun i σ H' => ∃ v1 v2 : Option V, σ = [some (.ref t), some (.ref wd), v1, v2] ∧ Same Hl H') ⟨none, none, rfl, Same.refl _⟩ (fun i σ H' _ ⟨_, _, _, s⟩ => s _ _ lk) ?_ ?_
    · rintro i x σ H2 H3 hi ⟨v1, v2, rfl, s2⟩ ⟨Tq, kx, vx, rfl, hT, rfl, hkx, hvx⟩
      rw [Option.map_eq_some_iff] at hkx hvx
      obtain ⟨⟨k', v'⟩, hk, rfl⟩ := hkx
      obtain ⟨⟨k'', v''⟩, hk2, rfl⟩ := hvx
      rw [hk] at hk2
      cases Option.some.inj hk2
      obtain ⟨e, ee, he⟩ := kvE_at hk
      cases ee
      have hem := List.mem_of_getElem? he
      have sT : Same H2 (upd H2 Tq (.tup [V.str e.1, V.bl e.2])) := Same.new hT
      have eT : (upd H2 Tq (.tup [V.str e.1, V.bl e.2])) Tq = some (.tup [V.str e.1, V.bl e.2]) := upd_same
      show gTup K 2 _ _ _ (upd H2 Tq (.tup [V.str e.1, V.bl e.2])) _
      generalize upd H2 Tq (.tup [V.str e.1, V.bl e.2]) = H4 at sT eT
      have s4 := s2.trans sT
      have ht4 := (tl (fun x => by rw [x] at hem; cases hem)).same s4
      refine ⟨Tq, _, rfl, sqT eT, rfl, _, _, rfl, _, _, rfl, rfl, ?_⟩
      refine ⟨_, rfl, _, rfl, t, e.1, rs, rfl, ht4, _, rfl, ?_⟩
      rw [decide_eq_true (mem_plc.mp (hok.inp e hem))]
      refine iteF ⟨_, rfl, _, _, _, _, true, rfl, .ty "bool", .base (.bl e.2), kit_ty (by decide +kernel), _, rfl, iteF ⟨_, _, rfl, s4⟩⟩
    · rintro σ H2 ⟨v1, v2, rfl, s2⟩
      exact ⟨s2 _ _ lk, hq _ (back _ s2)⟩
abbrev nEO : List Str := ["tree", "wish", "default", "ends"]
theorem sc_ends_of : FnScope nEO ["tree", "wish", "default"] (defScope s_ends_of) := ⟨rfl, rfl, rfl, by decide +kernel, rfl, by decide +kernel, by decide +kernel⟩
theorem ok_ends_of (D : DefAt K mg "ends_of" s_ends_of ["tree", "wish", "default"]) (B : TxB mg) (TC : TxC K mg) (Dw : DefAt K mg "check_wish" s_check_wish ["tree", "wish"]) (Gw : FnOk P w K mg base CX0 4 Dw.f Dw.fd ["tree", "wish"] (spCheckWish C)) : FnOk P w K mg base CX0 5 D.f D.fd ["tree", "wish", "default"] (spEndsOf C) := by
  obtain ⟨t1, gT⟩ := TC.top
  refine D.F.ok sc_ends_of (fun vs H Q E h => ?_) (fun cdv A outer s H vs Q E hr h => ?_)
  · obtain ⟨t, wd, rs, es, d, rfl, _⟩ := h
    rfl
  · obtain ⟨t, wd, rs, es, d, rfl, ht, hd, hok, hl, hq⟩ := h
    have hu := hu_of hr
    refine ⟨_, pss_cons (ps_expr (pe_call Gw hr rfl Dw.g Dw.F.kp Dw.b .nil pass0 (pa_cons (pv 0) (pa_cons (pv 1) pa_nil))))
      (pss_cons (ps_if (PW.pt (pw_and (pt_cmpR op_notN (pv 2) pe_non (nomark _)) (pw_and1 (pt_not (pt_val (pe_callB call_isi (by rfl) B.isinstance (by decide +kernel) (pa_cons (pv 2) (pa_cons (pe_bltn (by rfl) B.bool (by decide +kernel) (v := .ty "bool") rfl) pa_nil)))))))) (pss_one ps_never) pss_nil)
      (pss_cons (ps_set (i := 3) sc_ends_of.nd rfl (.inl rfl) (pe_callTy (T := "dict") call_dictD (by rfl) B.dict (by decide +kernel) (pa_cons (pv 1) pa_nil)))
      (pss_cons (ps_if (pt_cmpR op_notN (pv 2) pe_non (nomark _)) (pss_one (ps_dput hu (pv 3) (pe_glob (by rfl) gT (v := .str ("top" : Str)) ⟨_, rfl⟩) (pv 2) rfl)) pss_nil)
      (pss_one (ps_ret (pv 3)))))), ?_⟩
    refine ⟨_, rfl, _, rfl, t, wd, rs, es, rfl, ht, hd, hok, fun H1 s1 => ?_⟩
    have e1 := s1 _ _ hd
    cases d with
    | none =>
      refine ⟨_, rfl, rfl, _, rfl, iteF' (by rfl) (iteF ?_)⟩
      refine ⟨_, rfl, wd, _, rfl, .inl e1, fun D hD => ?_⟩
      refine ⟨_, rfl, rfl, _, rfl, iteF' (by rfl) ?_⟩
      exact ⟨_, rfl, hq D _ (s1.free hD) (s1.trans (Same.new hD)) upd_same⟩
    | some b =>
      refine ⟨_, rfl, rfl, _, rfl, iteT' (by rfl) ?_⟩
      refine ⟨_, rfl, _, _, _, _, true, rfl, .ty "bool", .base (.bl b), kit_ty (by decide +kernel), _, rfl, iteF ?_⟩
      refine ⟨_, rfl, wd, _, rfl, .inl e1, fun D hD => ?_⟩
      refine ⟨_, rfl, rfl, _, rfl, iteT' (by rfl) ?_⟩
      have nD : H D = none := s1.free hD
      refine ⟨_, rfl, _, rfl, D, _, rfl, DPut.k (k := Sum.inr ("top" : Str)) upd_same (by rw [kvE_len]; exact small1000 (by omega)), ?_⟩
      refine ⟨_, rfl, hq D _ nD (fun y o ey => ?_) ?_⟩
      · rw [upd_ne (ne_of_none ey nD), upd_ne (ne_of_none ey nD)]
        exact s1 _ _ ey
      · rw [upd_same]
        exact congrArg (fun z => some (HO.dK z)) (kvE_put es "top" b)
end
end Ts

set_option maxRecDepth 100000
set_option maxHeartbeats 4000000
namespace Ts
open PySem L2
/-! ### an own error with two fields -/
def spErr2 (CC : Addr) (f1 f2 : Str) : Sp := fun vs H Q _ => ∃ (a : Addr) (x y : V), vs = [.ref a, x, y] ∧ H a = some (exo a CC none) ∧ ∀ d, H d = none → d ≠ a → Q .non (upd (upd (upd H d (exd d [(f1, x)])) a (exo a CC (some d))) d (exd d [(f2, y), (f1, x)]))
theorem rd_err2 {CC : Addr} {f1 f2 : Str} {H1 : Hp} {x y : V} {Q : XK} (k : ∀ d, H1 d = none → Q (.ref CC) (some d) (upd H1 d (.xd [(f2, y), (f1, x)]))) : ([x, y] : List V).length ≤ 1000 ∧ ∀ a, H1 a = none → spErr2 CC f1 f2 (.ref a :: ([x, y] ++ [])) (upd H1 a (exo a CC none)) (fun v H2 => v = .non ∧ ∃ (d : Addr) (fs : List (Str × V)), H2 a = some (exo a CC (some d)) ∧ H2 d = some (exd d fs) ∧ H1 d = none ∧ Q (.ref CC) (some d) (upd (del H2 a) d (.xd fs))) (fun _ _ _ => False) := by
  refine ⟨(by show 2 ≤ 1000; decide), fun a ha => ⟨a, x, y, rfl, upd_same, fun d hd ne => ⟨rfl, d, [(f2, y), (f1, x)], by rw [upd_ne ne.symm]; exact upd_same, upd_same, by rw [upd_ne ne] at hd; exact hd, ?_⟩⟩⟩
  have hd1 : H1 d = none := by rw [upd_ne ne] at hd; exact hd
  have e : upd (del (upd (upd (upd (upd H1 a (exo a CC none)) d (exd d [(f1, x)])) a (exo a CC (some d))) d (exd d [(f2, y), (f1, x)])) a) d (.xd [(f2, y), (f1, x)]) = upd H1 d (.xd [(f2, y), (f1, x)]) := by
    funext b
    by_cases q : b = d
    · rw [q, upd_same, upd_same]
    · rw [upd_ne q, upd_ne q]
      unfold del
      by_cases r : b = a
      · rw [if_pos r, r]; exact ha.symm
      · rw [if_neg r, upd_ne q, upd_ne r, upd_ne q, upd_ne r]
  rw [e]
  exact k d hd1
section
variable {P : Program} {w : World} {K : PySem.W.Frag} {mg : Str → Option Value} {base : Heap} {CC : Addr}
theorem sc_Barred_init : FnScope ["self", "one", "other"] ["self", "one", "other"] (defScope s_Barred_init) := ⟨rfl, rfl, rfl, by decide +kernel, rfl, by decide +kernel, by decide +kernel⟩
theorem ok_Barred_init {f : Addr} {fd : FuncData} (F : Fun K "__init__" "Barred.__init__" s_Barred_init f fd) (O : OexC K CC) (nb : PySem.W.findIn K (.ref CC) "one" = some none) (ni : PySem.W.findIn K (.ref CC) "other" = some none) : FnOk P w K mg base CX0 2 f fd ["self", "one", "other"] (spErr2 CC "one" "other") := by
  refine F.ok sc_Barred_init (fun vs H Q E h => ?_) (fun cdv A outer s H vs Q E hr h => ?_)
  · obtain ⟨a, x, y, rfl, _⟩ := h
    rfl
  · obtain ⟨a, x, y, rfl, ha, hq⟩ := h
    refine ⟨_, pss_cons (ps_ost (pv 0) (pv 1)) (pss_one (ps_ost (pv 0) (pv 2))), ?_⟩
    refine ⟨_, rfl, _, rfl, a, CC, rfl, O, nb, .inl ⟨ha, fun d hd ne => ?_⟩⟩
    exact ⟨_, rfl, _, rfl, a, CC, rfl, O, ni, .inr ⟨d, _, upd_same, by rw [upd_ne ne]; exact upd_same, (by show 1 ≤ 900; decide), hq d hd ne⟩⟩
end
section
variable {P : Program} {w : World} {K : PySem.W.Frag} {mg : Str → Option Value} {base : Heap} {C CB : Addr}
abbrev nAL : List Str := ["tree", "place"]
theorem sc_above : FnScope nAL ["tree", "place"] (defScope s_above_locked) := ⟨rfl, rfl, rfl, by decide +kernel, rfl, by decide +kernel, by decide +kernel⟩
def muAbove (rs : List Row) : List (Option V) → Hp → Nat
  | [_, some (.str z)], _ => (wayOf rs z).length
  | _, _ => 0
theorem ok_above (D : DefAt K mg "above_locked" s_above_locked ["tree", "place"]) (TC : TxC K mg) (T : TxT K mg C)
    (mP : MethAt K C "price" "Tree.price" s_Tree_price ["self", "box"]) (GP : FnOk P w K mg base CX0 4 mP.f mP.fd ["self", "box"] (spGet C fun r => prV r.pr))
    (mF : MethAt K C "folder" "Tree.folder" s_Tree_folder ["self", "box"]) (GF : FnOk P w K mg base CX0 4 mF.f mF.fd ["self", "box"] (spGet C fun r => .str r.fo)) : FnOk P w K mg base CX0 5 D.f D.fd ["tree", "place"] (spAbove C) := by
  obtain ⟨t1, gT⟩ := TC.top
  refine D.F.ok sc_above (fun vs H Q E h => ?_) (fun cdv A outer s H vs Q E hr h => ?_)
  · obtain ⟨t, z, rs, rfl, _⟩ := h
    rfl
  · obtain ⟨t, z, rs, rfl, ht, hz, hq⟩ := h
    have hv := ht.val
    refine ⟨_, pss_cons (ps_while PassesOwn.never (PW.pt (pw_and (pt_cmpR op_ne (pv 1) (pe_glob (by rfl) gT (v := .str ("top" : Str)) ⟨_, rfl⟩) (nomark _)) (pw_and1 (pt_cmpR op_isN (pe_meth (pv 0) T.cl mP.m GP hr mP.b .nil pass0 (pa_cons (pv 1) pa_nil)) pe_non (nomark _)))))
        (pss_one (ps_set (i := 1) sc_above.nd rfl (.inl rfl) (pe_meth (pv 0) T.cl mF.m GF hr mF.b .nil pass0 (pa_cons (pv 1) pa_nil)))))
      (pss_one (ps_ret (pv 1))), ?_⟩
    obtain ⟨dx, q, f, k, p, qs, h1, _⟩ := id ht.ex
    have noP : (tf q f k p).lookup ("price" : Str) = none := tf_no _ _ _ _ (by decide +kernel) (by decide +kernel) (by decide +kernel) (by decide +kernel)
    have noF : (tf q f k p).lookup ("folder" : Str) = none := tf_no _ _ _ _ (by decide +kernel) (by decide +kernel) (by decide +kernel) (by decide +kernel)
    refine while_by (fun σ H' => ∃ z' : Str, σ = [some (.ref t), some (.str z')] ∧ z' ∈ plc rs ∧ H' = H ∧ lockR rs z' = lockR rs z) (muAbove rs) ⟨z, rfl, hz, rfl, rfl⟩ ?_ (fun σ H Q Q' hQ h => ?_)
    · rintro σ H1 ⟨z', rfl, hz', rfl, el⟩
      refine ⟨_, rfl, rfl, _, rfl, ?_⟩
      rcases mem_plc.mp hz' with rfl | hin
      · refine iteF' (by simp) (iteF ?_)
        refine ⟨_, rfl, ?_⟩
        rw [← el, lockR_top hv] at hq
        exact hq
      · have hn : z' ≠ ("top" : Str) := fun e => top_not hv (by rw [← e]; exact hin)
        obtain ⟨r, e1, hrm, rfl⟩ := rowOf_some hin
        refine iteT' (by rw [decide_eq_false (fun e => hn (V.str.inj e))]; rfl) ?_
        refine ⟨_, rfl, t, dx, _, rfl, h1, noP, _, rfl, t, r.nm, rs, r, rfl, ht, e1, rfl, _, rfl, ?_⟩
        by_cases c : r.pr = none
        · refine iteT' (decide_eq_true (show prV r.pr = V.non by rw [c]; rfl)) ?_
          refine ⟨_, rfl, t, dx, _, rfl, h1, noF, _, rfl, t, r.nm, rs, r, rfl, ht, e1, ?_⟩
          refine ⟨⟨r.fo, rfl, fo_plc hv hrm, rfl, ?_⟩, ?_⟩
          · rw [← el, lockR_row hv hrm, if_pos c]
          · show (wayOf rs r.fo).length < (wayOf rs r.nm).length
            rw [way_step hv hrm, List.length_append]
            exact Nat.lt_succ_self _
        · refine iteF' (decide_eq_false fun e => c (by
            have e : prV r.pr = V.non := e
            cases e2 : r.pr with
            | none => rfl
            | some i => rw [e2] at e; cases e)) ?_
          refine ⟨_, rfl, ?_⟩
          rw [← el, lockR_row hv hrm, if_neg c] at hq
          exact hq
    · obtain ⟨v, e, sc, k, e2, q⟩ := h
      refine ⟨v, e, sc, k, e2, ?_⟩
      cases k with
      | false => exact hQ _ _ q
      | true =>
        obtain ⟨a1, a2, a3, a4, a5, a6, a7, a8, a9, a10, b1, b2, b3, b4, b5, b6, b7, b8, b9, b10, r⟩ := q
        exact ⟨a1, a2, a3, a4, a5, a6, a7, a8, a9, a10, b1, b2, b3, b4, b5, b6, b7, b8, b9, b10, hQ _ _ r⟩
end
end Ts

set_option maxRecDepth 100000
set_option maxHeartbeats 4000000
namespace Ts
open PySem L2
section
variable {P : Program} {w : World} {K : PySem.W.Frag} {mg : Str → Option Value} {base : Heap} {C CB : Addr}
abbrev nBa : List Str := ["tree", "ends", "firsts", "place", "value", "first", "one", "other"]
theorem sc_barred : FnScope nBa ["tree", "ends"] (defScope s_check_barred) := ⟨rfl, rfl, rfl, by decide +kernel, rfl, by decide +kernel, by decide +kernel⟩
theorem ok_barred {fB : Addr} {fdB : FuncData} (D : DefAt K mg "check_barred" s_check_barred ["tree", "ends"]) (Da : DefAt K mg "above_locked" s_above_locked ["tree", "place"]) (Ga : FnOk P w K mg base CX0 5 Da.f Da.fd ["tree", "place"] (spAbove C))
    (TB : ErrT K mg CB "Barred" "one") (iB : PySem.W.findIn K (.ref CB) "__init__" = some (some (.ref fB))) (tB : PySem.W.typeIn K (.ref fB) = some (.type "function")) (GB : FnOk P w K mg base CX0 2 fB fdB ["self", "one", "other"] (spErr2 CB "one" "other")) (bB : Binds K fdB ["self", "one", "other"] []) :
    FnOk P w K mg base (L2.CX P w) 6 D.f D.fd ["tree", "ends"] (spBarred C CB) := by
  refine D.F.okX sc_barred (fun vs H Q E h => ?_) (fun cdv A outer s H vs Q E hr h => ?_)
  · obtain ⟨t, ed, rs, es, rfl, _⟩ := h
    rfl
  · obtain ⟨t, ed, rs, es, rfl, ht, hd, hok, hq, hE⟩ := h
    have hu := hu_of hr
    have r3 : Room 3 _ := hr.mono (by decide)
    refine ⟨_, pss_cons (ps_set (i := 2) sc_barred.nd rfl (.inl rfl) pe_dnewK)
      (pss_one (ps_lock (ps_for PassesOwn.leaving rfl (pi_items (pv 1)) (pg_tup rfl (pgs_cons (pg_name (i := 3) sc_barred.nd rfl (.inl rfl)) (pgs_cons (pg_name (i := 4) sc_barred.nd rfl (.inl rfl)) pgs_nil)))
        (pss_cons (ps_set (i := 5) sc_barred.nd rfl (.inl rfl) (pe_dsetd (pv 2) (pe_call Ga hr rfl Da.g Da.F.kp Da.b .nil pass0 (pa_cons (pv 0) (pa_cons (pv 3) pa_nil))) (pv 3) ⟨rfl, rfl, rfl, rfl⟩))
        (pss_one (ps_if (pt_cmpR op_ne (pe_dget hu (pv 1) (pv 5) (fun _ _ => rfl)) (pv 4) (nomark _))
          (pss_cons (ps_asg (pe_ifExp (pt_val (pv 4)) (pe_tup (pa_cons (pv 3) (pa_cons (pv 5) pa_nil))) (pe_tup (pa_cons (pv 5) (pa_cons (pv 3) pa_nil)))) (pg_tup rfl (pgs_cons (pg_name (i := 6) sc_barred.nd rfl (.inl rfl)) (pgs_cons (pg_name (i := 7) sc_barred.nd rfl (.inl rfl)) pgs_nil))))
          (pss_one (ps_raise rfl (takes_of rfl rfl rfl rfl) (pmk_oex TB.O iB tB GB r3 bB .nil pass0 rfl TB.g (by exact pa_cons (pv 6) (pa_cons (pv 7) pa_nil)))))) pss_nil)))))), ?_⟩
    refine fun fd hfd => ?_
    have nfe : ed ≠ fd := ne_of_none hd hfd
    refine ⟨ed, .dK (kvE es), by rw [upd_ne nfe]; exact hd, trivial, fun od => ?_⟩
    obtain ⟨Hk, Ek⟩ : ∃ Hx, Hx = upd H ed (.frz od (.dK (kvE es))) := ⟨_, rfl⟩
    obtain ⟨Hl, El⟩ : ∃ Hx, Hx = upd (upd H fd (.dK [])) ed (.frz od (.dK (kvE es))) := ⟨_, rfl⟩
    have lk : Hk ed = some (.frz od (.dK (kvE es))) := by rw [Ek]; exact upd_same
    have nk : Hk fd = none := by rw [Ek, upd_ne nfe.symm]; exact hfd
    have lf : Hl fd = some (.dK []) := by rw [El, upd_ne nfe.symm]; exact upd_same
    have skl : Same Hk Hl := fun b o e => by
      rw [El]
      rw [Ek] at e
      by_cases q : b = ed
      · rw [q, upd_same]; rw [q, upd_same] at e; exact e
      · rw [upd_ne q] at e ⊢
        rw [upd_ne (ne_of_none e hfd)]; exact e
    have up : ∀ b o, H b = some o → b ≠ ed → Hk b = some o := fun b o e n => by rw [Ek, upd_ne n]; exact e
    have upN : ∀ b, Hk b = none → H b = none := fun b e => by
      by_cases q : b = ed
      · rw [q, lk] at e; cases e
      · rw [Ek, upd_ne q] at e; exact e
    have tl : es ≠ [] → TreeAt C Hk t rs := fun h => by rw [Ek]; exact ht.lockE hd h
    rw [← El]
    clear El Ek
    refine ⟨_, rfl, ed, od, _, rfl, skl _ _ lk, ?_⟩
    refine for_it (walk_items (d := ed) (o := od) (kvs := kvE es)) (fun i σ H' => ∃ (v3 v4 v5 v6 v7 : Option V) (kvs : List (Key × V)), σ = [some (.ref t), some (.ref ed), some (.ref fd), v3, v4, v5, v6, v7] ∧ Same Hk H' ∧ H' fd = some (.dK kvs) ∧ kvs.length ≤ i ∧ (∀ ρ : Str, valV kvs (.inr ρ) = (firstE rs (es.take i) ρ).map fun e => V.str e.1) ∧
        OpenE rs (es.take i)) ⟨none, none, none, none, none, [], rfl, skl, lf, Nat.zero_le _, fun ρ => rfl, fun e he => by simp at he⟩ (fun i σ H' _ ⟨_, _, _, _, _, _, _, s, _⟩ => s _ _ lk) ?_ ?_
    · rintro i x σ H2 H3 hi ⟨v3, v4, v5, v6, v7, kvs, rfl, s2, hf2, hkl, hkv, hop⟩ ⟨Tq, kx, vx, rfl, hT, rfl, hkx, hvx⟩
      rw [Option.map_eq_some_iff] at hkx hvx
      obtain ⟨⟨k', v'⟩, hk, rfl⟩ := hkx
      obtain ⟨⟨k'', v''⟩, hk2, rfl⟩ := hvx
      rw [hk] at hk2
      cases Option.some.inj hk2
      obtain ⟨e, ee, he⟩ := kvE_at hk
      cases ee
      have hem := List.mem_of_getElem? he
      have hil : i < es.length := (List.getElem?_eq_some_iff.mp he).1
      have l200 := hok.len
      have sT : Same H2 (upd H2 Tq (.tup [V.str e.1, V.bl e.2])) := Same.new hT
      have eT : (upd H2 Tq (.tup [V.str e.1, V.bl e.2])) Tq = some (.tup [V.str e.1, V.bl e.2]) := upd_same
      show gTup K 2 _ _ _ (upd H2 Tq (.tup [V.str e.1, V.bl e.2])) _
      have hf4 := sT _ _ hf2
      generalize upd H2 Tq (.tup [V.str e.1, V.bl e.2]) = H4 at sT eT hf4
      have s4 := s2.trans sT
      have ht4 : TreeAt C H4 t rs := (tl (fun x => by rw [x] at hem; cases hem)).same s4
      have hinp := hok.inp e hem
      have tk : es.take (i + 1) = es.take i ++ [e] := take_more he
      have rd : ∀ {H' : Hp} {e0 : Str × Bool}, Same Hk H' → e0 ∈ es → DGet H' ed (.str e0.1) (some (.bl e0.2)) := fun {H' e0} s h => .inl ⟨_, .inr e0.1, .inr ⟨od, s _ _ lk⟩, rfl, by rw [kvE_val, endO_mem hok.nd h]; rfl⟩
      refine ⟨Tq, _, rfl, sqT eT, rfl, _, _, rfl, _, _, rfl, rfl, ?_⟩
      refine ⟨_, rfl, fd, rfl, .inl ⟨_, .inl hf4⟩, _, rfl, _, rfl, t, e.1, rs, rfl, ht4, hinp, _, rfl, kvs, .inr (lockR rs e.1), hf4, rfl, small1000 (by omega), ?_, ?_⟩
      · intro v hv
        rw [hkv] at hv
        obtain ⟨e0, he0, rfl⟩ := Option.map_eq_some_iff.mp hv
        have m0 : e0 ∈ es.take i := List.mem_of_find?_eq_some he0
        have r0 : lockR rs e0.1 = lockR rs e.1 := of_decide_eq_true (List.find?_some (p := fun q : Str × Bool => decide (lockR rs q.1 = lockR rs e.1)) he0)
        have m0e := List.mem_of_mem_take m0
        refine ⟨_, rfl, _, rfl, ed, _, rfl, rd s4 m0e, _, rfl, rfl, _, rfl, ?_⟩
        by_cases c : e0.2 = e.2
        · refine iteF' (by simp [c]) ⟨_, _, _, _, _, kvs, rfl, s4, hf4, by omega, fun ρ => ?_, ?_⟩
          · rw [tk, firstE_snoc, hkv]
            cases c2 : firstE rs (es.take i) ρ with
            | some e1 => rfl
            | none =>
              rw [if_neg fun x => ?_]
              · rfl
              · rw [← x, show firstE rs (es.take i) (lockR rs e.1) = some e0 from he0] at c2
                cases c2
          · rw [tk]
            intro a ha b hb x
            rcases List.mem_append.mp ha with ha | ha <;> rcases List.mem_append.mp hb with hb | hb
            · exact hop a ha b hb x
            · rw [List.mem_singleton.mp hb] at x ⊢
              rw [← c]; exact hop a ha e0 m0 (x.trans r0.symm)
            · rw [List.mem_singleton.mp ha] at x ⊢
              rw [← c]; exact hop e0 m0 b hb (r0.trans x)
            · rw [List.mem_singleton.mp ha, List.mem_singleton.mp hb]
        · refine iteT' (by simp [c]) ?_
          have out : ∀ (x y : Str), BarE rs es x y → ∀ H5 : Hp, Same Hk H5 → ∀ d, H5 d = none → E (.ref CB) (some d) (upd H5 d (.xd [("other", .str y), ("one", .str x)])) := fun x y hxy H5 s5 d hd5 =>
            hE x y hxy d _ (upN _ (s5.free hd5)) (fun b o nb eb => by rw [upd_ne (ne_of_none (s5 _ _ (up b o eb nb)) hd5)]; exact s5 _ _ (up b o eb nb)) upd_same
          cases cv : e.2 with
          | true =>
            have c0 : e0.2 = false := by cases q : e0.2 <;> simp_all
            have hb : BarE rs es e.1 e0.1 := ⟨by rw [← cv]; exact hem, by rw [← c0]; exact m0e, r0.symm⟩
            refine ⟨_, rfl, _, rfl, iteT' (by rfl) ⟨_, rfl, _, rfl, (by show 2 ≤ sizeLine; decide), fun tq htq => ?_⟩⟩
            refine ⟨tq, _, rfl, sqT upd_same, rfl, _, _, rfl, _, _, rfl, rfl, ?_⟩
            exact ⟨_, rfl, _, rfl, rd_err2 fun d hd5 => out _ _ hb _ (s4.trans (Same.new htq)) d hd5⟩
          | false =>
            have c0 : e0.2 = true := by cases q : e0.2 <;> simp_all
            have hb : BarE rs es e0.1 e.1 := ⟨by rw [← c0]; exact m0e, by rw [← cv]; exact hem, r0⟩
            refine ⟨_, rfl, _, rfl, iteF' (by rfl) ⟨_, rfl, _, rfl, (by show 2 ≤ sizeLine; decide), fun tq htq => ?_⟩⟩
            refine ⟨tq, _, rfl, sqT upd_same, rfl, _, _, rfl, _, _, rfl, rfl, ?_⟩
            exact ⟨_, rfl, _, rfl, rd_err2 fun d hd5 => out _ _ hb _ (s4.trans (Same.new htq)) d hd5⟩
      · intro hn
        have hn2 := hn
        rw [hkv] at hn2
        have hn3 : firstE rs (es.take i) (lockR rs e.1) = none := Option.map_eq_none_iff.mp hn2
        have s5 : Same Hk (upd H4 fd (.dK (putK kvs (.inr (lockR rs e.1)) (.str e.1)))) := fun b o eb => by
          rw [upd_ne (ne_of_none eb nk)]; exact s4 _ _ eb
        refine ⟨_, rfl, _, rfl, ed, _, rfl, rd s5 hem, _, rfl, rfl, _, rfl, iteF' (by simp) ⟨_, _, _, _, _, _, rfl, s5, upd_same, ?_, fun ρ => ?_, ?_⟩⟩
        · have := length_putK kvs (.inr (lockR rs e.1)) (.str e.1)
          omega
        · rw [valV_put, tk, firstE_snoc]
          by_cases c : ρ = lockR rs e.1
          · rw [if_pos (by rw [c]), c, hn3, if_pos rfl]; rfl
          · rw [if_neg (fun x => c (Sum.inr.inj x)), hkv, if_neg (fun x => c x.symm)]
            cases firstE rs (es.take i) ρ <;> rfl
        · rw [tk]
          have no : ∀ a ∈ es.take i, lockR rs a.1 ≠ lockR rs e.1 := fun a ha x => by
            have := List.find?_eq_none.mp hn3 a ha
            exact this (decide_eq_true x)
          intro a ha b hb x
          rcases List.mem_append.mp ha with ha | ha <;> rcases List.mem_append.mp hb with hb | hb
          · exact hop a ha b hb x
          · rw [List.mem_singleton.mp hb] at x; exact absurd x (no a ha)
          · rw [List.mem_singleton.mp ha] at x; exact absurd x.symm (no b hb)
          · rw [List.mem_singleton.mp ha, List.mem_singleton.mp hb]
    · rintro σ H2 ⟨v3, v4, v5, v6, v7, kvs, rfl, s2, hf2, hkl, hkv, hop⟩
      rw [kvE_len, List.take_length] at hop
      refine ⟨s2 _ _ lk, hq hop _ fun b o eb => ?_⟩
      by_cases q : b = ed
      · rw [q, upd_same, ← eb, q]; exact hd.symm
      · rw [upd_ne q]
        exact s2 _ _ (up b o eb q)
end
end Ts

set_option maxRecDepth 100000
set_option maxHeartbeats 4000000
namespace Ts
open PySem L2
def spEndless (C : Addr) : Sp := fun vs H Q _ => ∃ (t : Addr) (rs : List Row), vs = [.ref t] ∧ TreeAt C H t rs ∧ ∀ H', Same H H' → Q (.int (endlessI rs)) H'
def spSteps2 (C : Addr) : Sp := fun vs H Q _ => ∃ (t : Addr) (rs : List Row), vs = [.ref t] ∧ TreeAt C H t rs ∧ ∀ D H', H D = none → Same H H' → H' D = some (.dK (kvF (fun r => .int (stepR rs r)) rs)) → Q (.ref D) H'
theorem nms_at {rs : List Row} {i : Nat} {x : V} (h : ((names rs).map V.str)[i]? = some x) : ∃ r, x = .str r.nm ∧ rs[i]? = some r := by
  unfold names at h
  rw [List.getElem?_map, List.getElem?_map] at h
  obtain ⟨n1, hn1, rfl⟩ := Option.map_eq_some_iff.mp h
  obtain ⟨r, hr', rfl⟩ := Option.map_eq_some_iff.mp hn1
  exact ⟨r, rfl, hr'⟩
theorem kvF_keys (g : Row → V) (rs : List Row) : (kvF g rs).map (·.1) = (names rs).map (Sum.inr : Str → Key) := by
  unfold kvF names
  rw [List.map_map, List.map_map]; rfl
theorem kvF_next {g : Row → V} {rs : List Row} (hv : Valid rs) {i : Nat} {r : Row} (h : rs[i]? = some r) : putK (kvF g (rs.take i)) (.inr r.nm) (g r) = kvF g (rs.take (i + 1)) := kvF_more h (hv i r h).new
def someI (l : List (Option Int)) : List Int := l.filterMap id
theorem some_sum (rs : List Row) : (someI (rs.map (·.pr))).sum = allI rs := by
  unfold someI allI
  induction rs with
  | nil => rfl
  | cons r rs ih =>
    rw [List.map_cons, List.map_cons, List.sum_cons, ← ih]
    cases c : r.pr with
    | none => rw [List.filterMap_cons_none (by rfl)]; unfold prI; rw [c]; simp
    | some p => rw [List.filterMap_cons_some (b := p) (by rfl), List.sum_cons]; unfold prI; rw [c]; rfl
theorem prV_non {o : Option Int} : decide (prV o = V.non) = decide (o = none) := by
  cases o <;> simp [prV]
section
variable {P : Program} {w : World} {K : PySem.W.Frag} {mg : Str → Option Value} {base : Heap} {C CB : Addr}
abbrev nOE : List Str := ["tree", "wish", "default", "ends"]
theorem sc_open_ends : FnScope nOE ["tree", "wish", "default"] (defScope s_open_ends) := ⟨rfl, rfl, rfl, by decide +kernel, rfl, by decide +kernel, by decide +kernel⟩
theorem ok_open_ends {fB : Addr} {fdB : FuncData} (D : DefAt K mg "open_ends" s_open_ends ["tree", "wish", "default"]) (TC : TxC K mg)
    (De : DefAt K mg "ends_of" s_ends_of ["tree", "wish", "default"]) (Ge : FnOk P w K mg base CX0 5 De.f De.fd ["tree", "wish", "default"] (spEndsOf C))
    (Db : DefAt K mg "check_barred" s_check_barred ["tree", "ends"]) (Gb : FnOk P w K mg base (L2.CX P w) 6 Db.f Db.fd ["tree", "ends"] (spBarred C CB))
    (TB : ErrT K mg CB "Barred" "one") (iB : PySem.W.findIn K (.ref CB) "__init__" = some (some (.ref fB))) (tB : PySem.W.typeIn K (.ref fB) = some (.type "function")) (GB : FnOk P w K mg base CX0 2 fB fdB ["self", "one", "other"] (spErr2 CB "one" "other")) (bB : Binds K fdB ["self", "one", "other"] []) :
    FnOk P w K mg base (L2.CX P w) 7 D.f D.fd ["tree", "wish", "default"] (spOpenEnds C CB) := by
  obtain ⟨t1, gT⟩ := TC.top
  refine D.F.okX sc_open_ends (fun vs H Q E h => ?_) (fun cdv A outer s H vs Q E hr h => ?_)
  · obtain ⟨t, wd, rs, es, d, rfl, _⟩ := h
    rfl
  · obtain ⟨t, wd, rs, es, d, rfl, ht, hd, hok, hl, hq, hE⟩ := h
    have hu := hu_of hr
    have r3 : Room 3 _ := hr.mono (by decide)
    have r5 : Room 5 _ := hr.mono (by decide)
    refine ⟨_, pss_cons (ps_set (i := 3) sc_open_ends.nd rfl (.inl rfl) (pe_call Ge r5 rfl De.g De.F.kp De.b .nil pass0 (pa_cons (pv 0) (pa_cons (pv 1) (pa_cons (pv 2) pa_nil)))))
      (pss_cons (ps_if (PW.pt (pw_and (pt_cmp (pc_din hu (pe_glob (by rfl) gT (v := .str ("top" : Str)) ⟨_, rfl⟩) (pv 1))) (pw_and1 (pt_cmpR op_ne (pe_dget hu (pv 1) (pe_glob (by rfl) gT (v := .str ("top" : Str)) ⟨_, rfl⟩) (fun _ _ => rfl)) (pe_dget hu (pv 3) (pe_glob (by rfl) gT (v := .str ("top" : Str)) ⟨_, rfl⟩) (fun _ _ => rfl)) (nomark _)))))
        (pss_one (ps_raise rfl (takes_of rfl rfl rfl rfl) (pmk_oex TB.O iB tB GB r3 bB .nil pass0 rfl TB.g (by exact pa_cons (pe_glob (by rfl) gT (v := .str ("top" : Str)) ⟨_, rfl⟩) (pa_cons (pe_glob (by rfl) gT (v := .str ("top" : Str)) ⟨_, rfl⟩) pa_nil))))) pss_nil)
      (pss_cons (ps_expr (pe_call Gb hr rfl Db.g Db.F.kp Db.b .nil (passes_call (takes_of rfl rfl rfl rfl) (fun _ _ _ _ h => h)) (pa_cons (pv 0) (pa_cons (pv 3) pa_nil))))
      (pss_one (ps_ret (pv 3))))), ?_⟩
    refine ⟨_, rfl, _, rfl, _, rfl, t, wd, rs, es, d, rfl, ht, hd, hok, hl, fun D H1 hD s1 e1 => ?_⟩
    have dw : DGet H1 wd (.str ("top" : Str)) ((endO es "top").map V.bl) := .inl ⟨_, .inr ("top" : Str), .inl (s1 _ _ hd), rfl, by rw [kvE_val]⟩
    have de : DGet H1 D (.str ("top" : Str)) ((endO (topE d es) "top").map V.bl) := .inl ⟨_, .inr ("top" : Str), .inl e1, rfl, by rw [kvE_val]⟩
    have rest : (∀ b, endO es "top" = some b → d ≠ some (!b)) → tSeq (tDrop (tCall (spBarred C CB) [] E (tCons (tVar 0) (tCons (tVar 3) tNil)))) (tRet (tVar 3)) { nx := fun _ H' => Q .non H', rt := Q } [some (.ref t), some (.ref wd), some (dfV d), some (.ref D)] H1 := fun hc => by
      refine ⟨_, rfl, _, rfl, t, D, rs, topE d es, rfl, ht.same s1, e1, topE_ok hok hl d, fun ho H2 s2 => ⟨_, rfl, hq ⟨hc, ho⟩ D H2 hD (s1.trans s2) (s2 _ _ e1)⟩, fun x y hxy d2 H2 hd2 sb2 e2 => ?_⟩
      refine hE x y (.inr ⟨hc, hxy⟩) d2 H2 (s1.free hd2) (fun b o eb => sb2 b o (ne_of_none eb hD) (s1 _ _ eb)) e2
    cases c : endO es "top" with
    | none =>
      rw [c] at dw
      refine ⟨_, rfl, wd, _, rfl, dw, _, rfl, iteF' (by rfl) (iteF ?_)⟩
      exact rest fun b hb => by rw [c] at hb; cases hb
    | some b =>
      rw [c] at dw
      refine ⟨_, rfl, wd, _, rfl, dw, _, rfl, iteT' (by rfl) ?_⟩
      have ce : endO (topE d es) "top" = some (d.getD b) := by
        cases d with
        | none => exact c
        | some b' => show endO (putE es "top" b') "top" = _; rw [endO_put, if_pos rfl]; rfl
      rw [ce] at de
      refine ⟨_, rfl, wd, _, rfl, dw, _, rfl, D, _, rfl, de, rfl, _, rfl, ?_⟩
      by_cases q : d = some (!b)
      · refine iteT' (by rw [q]; cases b <;> rfl) (rd_err2 fun d2 hd2 => ?_)
        exact hE _ _ (.inl ⟨rfl, rfl, b, c, q⟩) d2 _ (s1.free hd2) (fun y o ey => by rw [upd_ne (ne_of_none (s1 _ _ ey) hd2)]; exact s1 _ _ ey) upd_same
      · refine iteF' ?_ (rest fun b' hb' => ?_)
        · cases d with
          | none => simp
          | some b' =>
            have : b' = b := by cases b' <;> cases b <;> simp_all
            rw [this]; simp
        · rw [c] at hb'; cases hb'; exact q
abbrev nEl : List Str := ["tree", "prices", "box", "price"]
theorem sc_endless : FnScope nEl ["tree"] (defScope s_endless) := ⟨rfl, rfl, rfl, by decide +kernel, rfl, by decide +kernel, by decide +kernel⟩
theorem ok_endless (D : DefAt K mg "endless" s_endless ["tree"]) (TC : TxC K mg) (T : TxT K mg C) (hS : mg "sum" = none)
    (mB : MethAt K C "below" "Tree.below" s_Tree_below ["self", "box"]) (GB : FnOk P w K mg base CX0 5 mB.f mB.fd ["self", "box"] (spListOf C belowL))
    (mP : MethAt K C "price" "Tree.price" s_Tree_price ["self", "box"]) (GP : FnOk P w K mg base CX0 4 mP.f mP.fd ["self", "box"] (spGet C fun r => prV r.pr)) : FnOk P w K mg base CX0 6 D.f D.fd ["tree"] (spEndless C) := by
  obtain ⟨t1, gT⟩ := TC.top
  refine D.F.ok sc_endless (fun vs H Q E h => ?_) (fun cdv A outer s H vs Q E hr h => ?_)
  · obtain ⟨t, rs, rfl, _⟩ := h
    rfl
  · obtain ⟨t, rs, rfl, ht, hq⟩ := h
    have r4 : Room 4 _ := hr.mono (by decide)
    refine ⟨_, pss_cons (ps_setLc (i := 1) (own := [("box", 2)]) (g := gName 2) (tt := tYes) (te := tMeth C "price" (spGet C fun r => prV r.pr) [] E0 (tVar 0) (tCons (tVar 2) tNil)) rfl sc_endless.nd rfl rfl (sw_true rfl rfl rfl (by decide +kernel)) (pi_list (pe_meth (pv 0) T.cl mB.m GB hr mB.b .nil pass0 (pa_cons (pe_glob (by rfl) gT (v := .str ("top" : Str)) ⟨_, rfl⟩) pa_nil))) (blkOk_by (N := nEl) (sc := defScope s_endless) (by decide +kernel))
        (fun _ _ _ _ _ => pg_name (i := 2) sc_endless.nd rfl (Or.inl rfl)) (fun _ _ _ _ _ => pts_nil) (fun _ _ _ _ _ => by exact pe_meth (pv 0) T.cl mP.m GP r4 mP.b .nil pass0 (pa_cons (pv 2) pa_nil)))
      (pss_one (ps_ret (pe_op op_add pe_int (pe_callB (cr_sum rfl) (by rfl) hS (by decide +kernel) (pa_cons (pe_lc (own := [("price", 3)]) (g := gName 3) (tt := tTest (tOp (fun x y H Q => y = .non ∧ Q (.bl (!decide (x = .non))) H) (tVar 3) (tC .non))) (te := tVar 3) rfl sc_endless.nd (pi_list (pv 1)) (blkOk_by (N := nEl) (sc := defScope s_endless) (by decide +kernel))
        (fun _ _ _ _ _ => pg_name (i := 3) sc_endless.nd rfl (Or.inl rfl)) (fun _ _ _ _ _ => by exact pts_one (pt_cmpR op_notN (pv 3) pe_non (nomark _))) (fun _ _ _ _ _ => pv 3)) pa_nil))))), ?_⟩
    have hv := ht.val
    have l100 := ht.len
    obtain ⟨dx, q, f, k, p, qs, h1, _⟩ := id ht.ex
    have noB : (tf q f k p).lookup ("below" : Str) = none := tf_no _ _ _ _ (by decide +kernel) (by decide +kernel) (by decide +kernel) (by decide +kernel)
    have noP : (tf q f k p).lookup ("price" : Str) = none := tf_no _ _ _ _ (by decide +kernel) (by decide +kernel) (by decide +kernel) (by decide +kernel)
    refine ⟨_, rfl, t, dx, _, rfl, h1, noB, t, ("top" : Str), rs, rfl, ht, .inl rfl, fun bl H2 hbl s2 e2 => ?_⟩
    rw [below_top hv] at e2
    refine ⟨bl, rfl, ⟨_, SqL.of e2⟩, fun D hD => ?_⟩
    refine lc_list (K := K) (a := bl) (xs := (names rs).map V.str) (fun i H' => Same H2 H' ∧ H' D = some (.lst ((rs.take i).map fun r => prV r.pr))) ⟨Same.new hD, upd_same⟩ (fun i H' _ m => m.1.seq (SqL.of e2)) ?_ ?_
    · rintro i x H3 hxi ⟨s3, hD3⟩
      obtain ⟨r, rfl, hr'⟩ := nms_at hxi
      have s23 := s2.trans s3
      refine ⟨rfl, tYes_if ⟨_, rfl, t, dx, _, rfl, s23 _ _ h1, noP, _, rfl, t, r.nm, rs, r, rfl, ht.same s23, rowOf_at hv hr', _, hD3, small1000 (by rw [List.length_map, List.length_take]; omega), fun b o eb => ?_, ?_⟩⟩
      · rw [upd_ne (fun y => by rw [y, hD] at eb; cases eb)]
        exact s3 _ _ eb
      · rw [upd_same, take_more hr', List.map_append]; rfl
    rintro H3 ⟨s3, hD3⟩
    rw [show ((names rs).map V.str).length = rs.length from by unfold names; rw [List.length_map, List.length_map], List.take_length] at hD3
    have s23 := s2.trans s3
    refine ⟨_, rfl, D, rfl, ⟨_, SqL.of hD3⟩, fun F hF => ?_⟩
    refine lc_list (K := K) (a := D) (xs := rs.map fun r => prV r.pr) (fun i H' => Same H3 H' ∧ H' F = some (.lst ((someI ((rs.take i).map (·.pr))).map V.int))) ⟨Same.new hF, upd_same⟩ (fun i H' _ m => m.1.seq (SqL.of hD3)) ?_ ?_
    · rintro i x H4 hxi ⟨s4, hF4⟩
      rw [List.getElem?_map] at hxi
      obtain ⟨r, hr', rfl⟩ := Option.map_eq_some_iff.mp hxi
      have hmore : someI ((rs.take (i + 1)).map (·.pr)) = someI ((rs.take i).map (·.pr)) ++ (match r.pr with | none => [] | some p => [p]) := by
        unfold someI
        rw [take_more hr', List.map_append, List.filterMap_append]
        cases c : r.pr <;> simp [c]
      have hlen : (someI ((rs.take i).map (·.pr))).length ≤ 100 := by
        unfold someI
        refine Nat.le_trans (List.length_filterMap_le _ _) ?_
        rw [List.length_map, List.length_take]; omega
      refine ⟨rfl, _, rfl, rfl, _, rfl, ?_⟩
      cases c : r.pr with
      | none =>
        rw [c] at hmore
        refine iteF' (by rfl) ⟨s4, ?_⟩
        rw [hmore, List.append_nil]; exact hF4
      | some p =>
        rw [c] at hmore
        refine iteT' (by rfl) ⟨_, rfl, _, hF4, small1000 (by rw [List.length_map]; omega), fun b o eb => ?_, ?_⟩
        · rw [upd_ne (fun y => by rw [y, hF] at eb; cases eb)]
          exact s4 _ _ eb
        · rw [upd_same, hmore, List.map_append]; rfl
    rintro H4 ⟨s4, hF4⟩
    rw [List.length_map, List.take_length] at hF4
    refine ⟨F, _, rfl, SqL.of hF4, 1, _, rfl, rfl, ?_⟩
    rw [some_sum]
    exact hq _ (s23.trans s4)
abbrev nSP : List Str := ["tree", "locked", "prices", "box"]
theorem sc_stepp : FnScope nSP ["tree"] (defScope s_step_prices) := ⟨rfl, rfl, rfl, by decide +kernel, rfl, by decide +kernel, by decide +kernel⟩
end
end Ts

set_option maxRecDepth 100000
set_option maxHeartbeats 4000000
namespace Ts
open PySem L2
theorem kvF_eq {g g' : Row → V} {rs : List Row} (h : ∀ r ∈ rs, g r = g' r) : kvF g rs = kvF g' rs := List.map_congr_left fun r hr => by rw [h r hr]
theorem kvF_val {g : Row → V} {rs : List Row} (hv : Valid rs) {r : Row} (hr : r ∈ rs) : valV (kvF g rs) (.inr r.nm : Key) = some (g r) := by
  obtain ⟨i, hi, e⟩ := List.mem_iff_getElem.mp hr
  rw [valV_kvF, show (rs.find? fun q => decide (q.nm = r.nm)) = some r from rowOf_at hv (show rs[i]? = some r by rw [← e]; exact List.getElem?_eq_getElem hi)]
  rfl
section
variable {P : Program} {w : World} {K : PySem.W.Frag} {mg : Str → Option Value} {base : Heap} {C CB : Addr}
theorem ok_step_prices (D : DefAt K mg "step_prices" s_step_prices ["tree"]) (TC : TxC K mg) (T : TxT K mg C)
    (De : DefAt K mg "endless" s_endless ["tree"]) (Ge : FnOk P w K mg base CX0 6 De.f De.fd ["tree"] (spEndless C))
    (mB : MethAt K C "below" "Tree.below" s_Tree_below ["self", "box"]) (GB : FnOk P w K mg base CX0 5 mB.f mB.fd ["self", "box"] (spListOf C belowL))
    (mP : MethAt K C "price" "Tree.price" s_Tree_price ["self", "box"]) (GP : FnOk P w K mg base CX0 4 mP.f mP.fd ["self", "box"] (spGet C fun r => prV r.pr)) : FnOk P w K mg base CX0 7 D.f D.fd ["tree"] (spSteps2 C) := by
  obtain ⟨t1, gT⟩ := TC.top
  refine D.F.ok sc_stepp (fun vs H Q E h => ?_) (fun cdv A outer s H vs Q E hr h => ?_)
  · obtain ⟨t, rs, rfl, _⟩ := h
    rfl
  · obtain ⟨t, rs, rfl, ht, hq⟩ := h
    have hu := hu_of hr
    have r4 : Room 4 _ := hr.mono (by decide)
    have r5 : Room 5 _ := hr.mono (by decide)
    refine ⟨_, pss_cons (ps_set (i := 1) sc_stepp.nd rfl (.inr rfl) (pe_call Ge hr rfl De.g De.F.kp De.b .nil pass0 (pa_cons (pv 0) pa_nil)))
      (pss_cons (ps_set (i := 2) sc_stepp.nd rfl (.inr rfl) (pe_dc (own := [("box", 3)]) (g := gName 3) (tt := tYes) (tk := tVar 3) (tv := tMeth C "price" (spGet C fun r => prV r.pr) [] E0 (tVar 0) (tCons (tVar 3) tNil)) rfl sc_stepp.nd (pi_list (pe_meth (pv 0) T.cl mB.m GB r5 mB.b .nil pass0 (pa_cons (pe_glob (by rfl) gT (v := .str ("top" : Str)) ⟨_, rfl⟩) pa_nil))) (blkOk_by (N := nSP) (sc := defScope s_step_prices) (by decide +kernel))
        (fun _ _ _ _ _ => pg_name (i := 3) sc_stepp.nd rfl (Or.inl rfl)) (fun _ _ _ _ _ => pts_nil) (fun _ _ _ _ _ => pv 3) (fun _ _ _ _ _ => by exact pe_meth (pv 0) T.cl mP.m GP r4 mP.b .nil pass0 (pa_cons (pv 3) pa_nil))))
      (pss_one (ps_ret (pe_lock (pe_dc (own := [("box", 3)]) (g := gName 3) (tt := tYes) (tk := tVar 3) (tv := tIf (tTest (tOp (fun x y H Q => y = .non ∧ Q (.bl (decide (x = .non))) H) (tDGet (tVar 2) (tVar 3)) (tC .non))) (tVar 1) (tDGet (tVar 2) (tVar 3))) rfl sc_stepp.nd (pi_keys (pv 2)) (blkOk_by (N := nSP) (sc := defScope s_step_prices) (by decide +kernel))
        (fun _ _ _ _ _ => pg_name (i := 3) sc_stepp.nd rfl (Or.inl rfl)) (fun _ _ _ _ _ => pts_nil) (fun _ _ _ _ _ => pv 3) (fun _ _ _ _ _ => by exact pe_ifExp (pt_cmpR op_isN (pe_dget hu (pv 2) (pv 3) (fun _ _ => rfl)) pe_non (nomark _)) (pv 1) (pe_dget hu (pv 2) (pv 3) (fun _ _ => rfl)))))))), ?_⟩
    have hv := ht.val
    have l100 := ht.len
    obtain ⟨dx, q, f, k, p, qs, h1, _⟩ := id ht.ex
    have noB : (tf q f k p).lookup ("below" : Str) = none := tf_no _ _ _ _ (by decide +kernel) (by decide +kernel) (by decide +kernel) (by decide +kernel)
    have noP : (tf q f k p).lookup ("price" : Str) = none := tf_no _ _ _ _ (by decide +kernel) (by decide +kernel) (by decide +kernel) (by decide +kernel)
    refine ⟨_, rfl, t, rs, rfl, ht, fun H1 s1 => ?_⟩
    refine ⟨_, rfl, t, dx, _, rfl, s1 _ _ h1, noB, t, ("top" : Str), rs, rfl, ht.same s1, .inl rfl, fun bl H2 hbl s12 e2 => ?_⟩
    rw [below_top hv] at e2
    have s2 := s1.trans s12
    refine ⟨bl, rfl, ⟨_, SqL.of e2⟩, fun D hD => ?_⟩
    have ln : ((names rs).map V.str).length = rs.length := by unfold names; rw [List.length_map, List.length_map]
    refine dc_walk (walk_list (K := K) (a := bl) (xs := (names rs).map V.str)) (fun i H' => Same H2 H' ∧ H' D = some (.dK (kvF (fun r => prV r.pr) (rs.take i)))) ⟨Same.new hD, upd_same⟩ (fun i H' _ m => m.1.seq (SqL.of e2)) ?_ ?_
    · rintro i x H3x H3 hi ⟨s3, hD3⟩ ⟨rfl, hxi⟩
      obtain ⟨r, rfl, hr'⟩ := nms_at hxi
      have s23 := s2.trans s3
      refine ⟨rfl, tYes_if ⟨_, rfl, _, rfl, t, dx, _, rfl, s23 _ _ h1, noP, _, rfl, t, r.nm, rs, r, rfl, ht.same s23, rowOf_at hv hr', _, .inr r.nm, rfl, hD3, small1000 (by unfold kvF; rw [List.length_map, List.length_take]; omega), fun b o eb => ?_, ?_⟩⟩
      · rw [upd_ne (fun y => by rw [y, hD] at eb; cases eb)]
        exact s3 _ _ eb
      · rw [upd_same]; exact congrArg (fun z => some (HO.dK z)) (kvF_next (g := fun r => prV r.pr) hv hr')
    rintro H3 ⟨s3, hD3⟩
    rw [ln, List.take_length] at hD3
    have s23 := s2.trans s3
    -- over the dict itself
    have nD : H D = none := s2.free hD
    refine ⟨D, _, hD3, trivial, fun od => ?_⟩
    obtain ⟨Hl, El⟩ : ∃ Hx, Hx = upd H3 D (.frz od (.dK (kvF (fun r => prV r.pr) rs))) := ⟨_, rfl⟩
    have lk : Hl D = some (.frz od (.dK (kvF (fun r => prV r.pr) rs))) := by rw [El]; exact upd_same
    have keep : ∀ b o, H b = some o → Hl b = some o := fun b o e => by rw [El, upd_ne (ne_of_none e nD)]; exact s23 _ _ e
    rw [← El]
    clear El
    refine ⟨_, rfl, D, od, rfl, .inl ⟨_, lk, fun F hF => ?_⟩⟩
    have nF : F ≠ D := (ne_of_none lk hF).symm
    have hFH : H F = none := by
      cases c : H F with
      | none => rfl
      | some o => rw [keep _ _ c] at hF; cases hF
    refine dc_walk (walk_keys (d := D) (o := od) (kvs := kvF (fun r => prV r.pr) rs)) (fun i H' => Same Hl H' ∧ H' F = some (.dK (kvF (fun r => .int (stepR rs r)) (rs.take i)))) ⟨Same.new hF, upd_same⟩ (fun i H' _ m => m.1 _ _ lk) ?_ ?_
    · rintro i x H5x H5 hi ⟨s5, hF5⟩ ⟨rfl, k', v', hk, rfl⟩
      obtain ⟨r, hr', rfl, rfl⟩ := kvF_at hk
      have hrm := List.mem_of_getElem? hr'
      have dg : DGet H5 D (.str r.nm) (some (prV r.pr)) := .inl ⟨_, .inr r.nm, .inr ⟨od, s5 _ _ lk⟩, rfl, (kvF_val (g := fun r => prV r.pr) hv hrm).symm⟩
      refine ⟨rfl, tYes_if ⟨_, rfl, _, rfl, _, rfl, D, _, rfl, dg, rfl, _, rfl, ?_⟩⟩
      have fin : ∃ kvs k, (V.str r.nm : V) = kV k ∧ H5 F = some (.dK kvs) ∧ kvs.length < sizeLine ∧ (Same Hl (upd H5 F (.dK (putK kvs k (.int (stepR rs r))))) ∧ (upd H5 F (.dK (putK kvs k (.int (stepR rs r))))) F = some (.dK (kvF (fun r => .int (stepR rs r)) (rs.take (i + 1))))) := by
        refine ⟨_, .inr r.nm, rfl, hF5, small1000 (by unfold kvF; rw [List.length_map, List.length_take]; omega), fun b o eb => ?_, ?_⟩
        · rw [upd_ne (fun y => by rw [y, hF] at eb; cases eb)]
          exact s5 _ _ eb
        · rw [upd_same]; exact congrArg (fun z => some (HO.dK z)) (kvF_next (g := fun r => .int (stepR rs r)) hv hr')
      cases c : r.pr with
      | none =>
        refine iteT' (by rfl) ⟨_, rfl, ?_⟩
        have e : stepR rs r = endlessI rs := by unfold stepR; rw [c]; rfl
        rw [e] at fin
        exact fin
      | some pp =>
        refine iteF' (by rfl) ⟨_, rfl, _, rfl, D, _, rfl, dg, ?_⟩
        have e : stepR rs r = pp := by unfold stepR; rw [c]; rfl
        rw [e] at fin
        rw [c]
        exact fin
    rintro H5 ⟨s5, hF5⟩
    rw [show (kvF (fun r => prV r.pr) rs).length = rs.length from by unfold kvF; rw [List.length_map], List.take_length] at hF5
    refine ⟨s5 _ _ lk, hq F _ hFH (fun b o eb => ?_) ?_⟩
    · rw [upd_ne (ne_of_none eb nD)]
      exact s5 _ _ (keep _ _ eb)
    · rw [upd_ne nF]; exact hF5
end
end Ts

set_option maxRecDepth 100000
set_option maxHeartbeats 4000000
namespace Ts
open PySem L2
/-! ### the numbers of choices -/
def leastI (rs : List Row) (r : Row) (f : Tab) (b : Bool) : Int := min (f r.nm b) (f r.nm (!b) + stepR rs r)
def manyI (rs : List Row) (r : Row) (f g : Tab) (b : Bool) : Int := (if f r.nm b = leastI rs r f b then g r.nm b else 0) + (if f r.nm (!b) + stepR rs r = leastI rs r f b then g r.nm (!b) else 0)
def stepN (rs : List Row) (r : Row) (f g : Tab) : Tab := fun z b => if z = r.fo then g z b * manyI rs r f g b else g z b
def numT (rs : List Row) (es : Wsh) : List Row → Tab
  | [] => fun _ _ => 1
  | r :: l => stepN rs r (tabT rs es l) (numT rs es l)
def numF (rs : List Row) (es : Wsh) : Tab := numT rs es rs
/-- how many boxes have been added up below a place -/
def wT : List Row → Str → Nat
  | [] => fun _ => 0
  | r :: l => fun z => if z = r.fo then wT l z + (1 + wT l r.nm) else wT l z
theorem sum_oneN {l : List Str} (nd : l.Nodup) {a : Str} (ha : a ∈ l) (g : Str → Nat) (m : Nat) : (l.map fun z => if z = a then g z + m else g z).sum = (l.map g).sum + m := by
  induction l with
  | nil => cases ha
  | cons b l ih =>
    rw [List.nodup_cons] at nd
    rw [List.map_cons, List.map_cons, List.sum_cons, List.sum_cons]
    by_cases q : b = a
    · have e : l.map (fun z => if z = a then g z + m else g z) = l.map g := List.map_congr_left fun z hz => if_neg fun x => nd.1 (by rw [q, ← x]; exact hz)
      rw [if_pos q, e]; omega
    · rw [if_neg q, ih nd.2 ((List.mem_cons.mp ha).resolve_left fun x => q x.symm)]; omega
theorem w_sum : ∀ (suf pre : List Row), Valid (pre ++ suf) → ((plc pre).map (wT suf)).sum = suf.length
  | [], pre, _ => by
    have : ∀ l : List Str, (l.map (wT [])).sum = 0 := fun l => by
      induction l with
      | nil => rfl
      | cons a l ih => rw [List.map_cons, List.sum_cons, ih]; rfl
    rw [this]; rfl
  | r :: suf, pre, h => by
    have ih := w_sum suf (pre ++ [r]) (by rw [List.append_assoc]; exact h)
    have hf := fits_at h
    have e : (plc pre).map (wT (r :: suf)) = (plc pre).map fun z => if z = r.fo then wT suf z + (1 + wT suf r.nm) else wT suf z := rfl
    rw [e, sum_oneN (plc_nodup (valid_pre h)) (fo_pre hf)]
    rw [plc_snoc, List.map_append, List.sum_append] at ih
    simp only [List.map_cons, List.map_nil, List.sum_cons, List.sum_nil] at ih
    rw [List.length_cons]
    omega
theorem w_le {pre suf : List Row} (h : Valid (pre ++ suf)) {z : Str} (hz : z ∈ plc pre) : wT suf z ≤ suf.length := by
  rw [← w_sum suf pre h]
  generalize plc pre = l at hz
  induction l with
  | nil => cases hz
  | cons a l ih =>
    rw [List.map_cons, List.sum_cons]
    rcases List.mem_cons.mp hz with rfl | hz
    · omega
    · have := ih hz; omega
theorem num_le (rs : List Row) (es : Wsh) : ∀ (l : List Row) (z : Str) (b : Bool), 0 ≤ numT rs es l z b ∧ numT rs es l z b ≤ 2 ^ wT l z
  | [], z, b => ⟨by show (0 : Int) ≤ 1; decide, by show (1 : Int) ≤ 2 ^ 0; decide⟩
  | r :: l, z, b => by
    have hz := num_le rs es l z b
    have h1 := num_le rs es l r.nm b
    have h2 := num_le rs es l r.nm (!b)
    show 0 ≤ stepN rs r (tabT rs es l) (numT rs es l) z b ∧ stepN rs r (tabT rs es l) (numT rs es l) z b ≤ 2 ^ (if z = r.fo then wT l z + (1 + wT l r.nm) else wT l z)
    unfold stepN
    by_cases q : z = r.fo
    · rw [if_pos q, if_pos q]
      have m : 0 ≤ manyI rs r (tabT rs es l) (numT rs es l) b ∧ manyI rs r (tabT rs es l) (numT rs es l) b ≤ 2 ^ (1 + wT l r.nm) := by
        rw [Int.pow_add]
        unfold manyI
        split <;> split <;> omega
      refine ⟨Int.mul_nonneg hz.1 m.1, ?_⟩
      rw [Int.pow_add]
      exact Int.mul_le_mul hz.2 m.2 m.1 (by have := hz.1; omega)
    · rw [if_neg q, if_neg q]; exact hz
theorem log_le {i : Int} {k : Nat} (h0 : 0 ≤ i) (h : i ≤ 2 ^ k) : i.natAbs.log2 ≤ k := by
  by_cases q : i.natAbs = 0
  · rw [q]; exact Nat.zero_le _
  · have h1 : i.natAbs < 2 ^ (k + 1) := by
      have e : (i.natAbs : Int) = i := Int.natAbs_of_nonneg h0
      have : (i.natAbs : Int) ≤ ((2 ^ k : Nat) : Int) := by rw [e]; push_cast; exact h
      have h2 : i.natAbs ≤ 2 ^ k := by exact_mod_cast this
      have h3 : 2 ^ k < 2 ^ (k + 1) := Nat.pow_lt_pow_right (by decide) (Nat.lt_succ_self k)
      omega
    have := (Nat.log2_lt q).mpr h1
    omega
theorem num_log {rs : List Row} (es : Wsh) {pre suf : List Row} (h : Valid (pre ++ suf)) {z : Str} (hz : z ∈ plc pre) (b : Bool) : (numT rs es suf z b).natAbs.log2 ≤ suf.length := by
  have h1 := num_le rs es suf z b
  have h2 := w_le h hz
  exact Nat.le_trans (log_le h1.1 h1.2) h2
theorem many_log {rs : List Row} (es : Wsh) {pre suf : List Row} {r : Row} (h : Valid (pre ++ r :: suf)) (b : Bool) : (manyI rs r (tabT rs es suf) (numT rs es suf) b).natAbs.log2 ≤ 1 + suf.length := by
  have h1 := num_le rs es suf r.nm b
  have h2 := num_le rs es suf r.nm (!b)
  have h3 : wT suf r.nm ≤ suf.length := w_le (pre := pre ++ [r]) (by rw [List.append_assoc]; exact h) (by rw [plc_snoc]; exact List.mem_append_right _ (List.mem_singleton_self _))
  have m : 0 ≤ manyI rs r (tabT rs es suf) (numT rs es suf) b ∧ manyI rs r (tabT rs es suf) (numT rs es suf) b ≤ 2 ^ (1 + wT suf r.nm) := by
    rw [Int.pow_add]
    unfold manyI
    split <;> split <;> omega
  have := log_le m.1 m.2
  omega
end Ts

set_option maxRecDepth 100000
set_option maxHeartbeats 1000000
namespace Ts
open PySem L2
/-! ### dicts whose keys are pairs of a text and a truth -/
abbrev tkP (P : Program) (w : World) : HeapKind P w (List Leaf) := tupleKind (leafKind P w)
def keyP (z : Str) (b : Bool) : List Leaf := [Leaf.text z, Leaf.num (if b = true then 1 else 0)]
theorem keyP_inj {z z' : Str} {b b' : Bool} (h : keyP z b = keyP z' b') : z = z' ∧ b = b' := by
  unfold keyP at h
  injection h with h1 h2
  injection h1 with h1
  injection h2 with h2
  injection h2 with h2
  refine ⟨h1, ?_⟩
  cases b <;> cases b' <;> first | rfl | exact absurd h2 (by decide)
structure EnP where
  z : Str
  b : Bool
  a : Addr
  v : V
def PairP : List (List Leaf × Addr × Value) → List EnP → Prop := Paired fun x y => x.1 = keyP y.z y.b ∧ x.2.1 = y.a ∧ RelV y.v x.2.2
/-- the dict at p with the entries l -/
def DicP (P : Program) (w : World) (c : Option Obj) (p : Addr) (l : List EnP) : HO := .ext fun h => ∃ (o : Obj) (es : Array DictEntry) (ep : Nat) (xs : List (List Leaf × Addr × Value)), (∀ q, c = some q → o = q) ∧ h.get? p = some o ∧ Obj.ExactDict o ∧ o.data = .dict es ep ∧ es.toList = xs.map (entryOfKey (tkP P w)) ∧ PairP xs l ∧ (l.map fun y => keyP y.z y.b).Nodup ∧ l.length ≤ sizeLine ∧ (p == sysModules) = false
def KeysP (H : Hp) (l : List EnP) : Prop := ∀ y ∈ l, H y.a = some (.tup [.str y.z, .bl y.b])
def atP (l : List EnP) (z : Str) (b : Bool) : Option V := (l.find? fun y => decide (y.z = z ∧ y.b = b)).map fun y => y.v
def putP (l : List EnP) (z : Str) (b : Bool) (v : V) : List EnP := l.map fun y => if y.z = z ∧ y.b = b then ⟨y.z, y.b, y.a, v⟩ else y
theorem key_P {P : Program} {w : World} {H : Hp} {h : Heap} {a : Addr} {z : Str} {b : Bool} (ok : HOk P w H h) (e : H a = some (.tup [.str z, .bl b])) : (tkP P w).is h (keyP z b) a := by
  have := ok a _ e
  unfold ObjOk at this
  obtain ⟨_, its, hv, o, ho, hc, n, hd⟩ := this
  refine ⟨o, its.toArray, n, ho, hc, hd, ?_⟩
  cases hv with
  | cons r1 t =>
  cases t with
  | cons r2 t =>
  cases t
  obtain ⟨tk, rfl⟩ := r1
  cases r2
  refine .cons ?_ (.cons ?_ .nil)
  · show decide (z = z) = true
    exact decide_eq_true rfl
  · show decide ((if b = true then (1 : Int) else 0) = if b = true then 1 else 0) = true
    exact decide_eq_true rfl
theorem pairP_keys : ∀ {xs : List (List Leaf × Addr × Value)} {l : List EnP}, PairP xs l → xs.map (fun x => x.1) = l.map fun y => keyP y.z y.b
  | _, _, .nil => rfl
  | _, _, .cons h t => by rw [List.map_cons, List.map_cons, h.1, pairP_keys t]
theorem pairP_len {xs : List (List Leaf × Addr × Value)} {l : List EnP} (p : PairP xs l) : xs.length = l.length := by
  have := congrArg List.length (pairP_keys p)
  simpa using this
theorem pairP_all {xs : List (List Leaf × Addr × Value)} {l : List EnP} (p : PairP xs l) : ∀ x ∈ xs, ∃ y ∈ l, x.1 = keyP y.z y.b ∧ x.2.1 = y.a := by
  induction p with
  | nil => intro x hx; cases hx
  | cons h t ih =>
    intro x hx
    rcases List.mem_cons.mp hx with rfl | hx
    · exact ⟨_, List.mem_cons_self .., h.1, h.2.1⟩
    · obtain ⟨y, hy, e⟩ := ih x hx
      exact ⟨y, List.mem_cons_of_mem _ hy, e⟩
theorem keyP_dec (z z' : Str) (b b' : Bool) : decide (keyP z b = keyP z' b') = decide (z = z' ∧ b = b') := by
  by_cases h : z = z' ∧ b = b'
  · rw [decide_eq_true h, h.1, h.2]; exact decide_eq_true rfl
  · rw [decide_eq_false h]; exact decide_eq_false fun e => h (keyP_inj e)
theorem atP_of : ∀ {xs : List (List Leaf × Addr × Value)} {l : List EnP}, PairP xs l → ∀ {z : Str} {b : Bool} {v : V}, atP l z b = some v → ∃ q, atKey xs (keyP z b) = some q ∧ RelV v q.2
  | _, _, .nil, z, b, v, e => nomatch e
  | x :: xs, y :: l, .cons h t, z, b, v, e => by
    unfold atP atKey at *
    rw [List.find?_cons] at e ⊢
    rw [h.1, keyP_dec]
    by_cases q : y.z = z ∧ y.b = b
    · rw [decide_eq_true q] at e ⊢
      cases e
      exact ⟨_, rfl, h.2.2⟩
    · rw [decide_eq_false q] at e ⊢
      exact atP_of t e
theorem dicP_of {P : Program} {w : World} {H : Hp} {h : Heap} {c : Option Obj} {p : Addr} {l : List EnP} (ok : HOk P w H h) (e : H p = some (DicP P w c p l)) (hk : KeysP H l) :
    l.length ≤ sizeLine ∧ (p == sysModules) = false ∧ (l.map fun y => keyP y.z y.b).Nodup ∧ ∃ xs, h.DictOfH (tkP P w) p xs ∧ PairP xs l := by
  have := ok p _ e
  unfold DicP ObjOk at this
  obtain ⟨⟨o, es, ep, xs, _, h1, h2, h3, h4, h5, h6, h7, h8⟩, _⟩ := this
  refine ⟨h7, h8, h6, xs, ⟨o, es, ep, h1, h2, h3, h4, fun x hx => ?_, by rw [pairP_keys h5]; exact h6⟩, h5⟩
  obtain ⟨y, hy, e1, e2⟩ := pairP_all h5 x hx
  rw [e1, e2]
  exact key_P ok (hk y hy)
theorem dicP_new {P : Program} {w : World} {H : Hp} {h : Heap} {p : Addr} {l : List EnP} {xs : List (List Leaf × Addr × Value)} (dd : h.DictOfH (tkP P w) p xs) (pr : PairP xs l) (hl : l.length ≤ sizeLine) (hp : (p == sysModules) = false) : ObjOk P w H h p (DicP P w none p l) := by
  obtain ⟨o, es, ep, h1, h2, h3, h4, h5, h6⟩ := dd
  rw [pairP_keys pr] at h6
  unfold DicP ObjOk
  refine ⟨?_, ⟨o, h1⟩, ?_⟩
  · exact ⟨o, es, ep, xs, (fun q e => nomatch e), h1, h2, h3, h4, pr, h6, hl, hp⟩
  · intro a1 a2 hh k
    obtain ⟨o, es, ep, xs, h0, h1, h⟩ := hh
    exact ⟨o, es, ep, xs, h0, k _ h1, h⟩
/-- d[z, b] -/
def rGetP (P : Program) (w : World) : V → V → Hp → VK → Prop := fun o i H Q => ∃ (c : Option Obj) (p a : Addr) (l : List EnP) (z : Str) (b : Bool) (v : V), o = .ref p ∧ i = .ref a ∧ H p = some (DicP P w c p l) ∧ KeysP H l ∧ H a = some (.tup [.str z, .bl b]) ∧ atP l z b = some v ∧ Q v H
theorem pget_P {X : Cx} (hu : X.A.units + 1 < cLine) : PGet X (rGetP X.prog X.w) := by
  intro pins s σ H o i ov iv Q I r1 r2 ⟨c, p, a, l, z, b, v, e1, e2, hp, hk, ha, hv, q⟩
  subst e1 e2
  obtain rfl : ov = Value.ref p := r1
  obtain rfl : iv = Value.ref a := r2
  obtain ⟨_, _, _, xs, dd, pr⟩ := dicP_of I.hok hp hk
  obtain ⟨u, hu2, rv⟩ := atP_of pr hv
  exact wpAny_getItem_heap (tupleKind_room_in1 hu) (key_P I.hok ha) dd hu2 ⟨v, H, I.tok _, rv, q⟩
def tGetP (P : Program) (w : World) (td ty : TE) : TE := fun σ H Q => td σ H fun o H1 => ty σ H1 fun i H2 => rGetP P w o i H2 Q
theorem pe_getP {X : Cx} {o i : Expr} {pos : Pos} {td ty : TE} (hu : X.A.units + 1 < cLine) (ho : PE X o td) (hi : PE X i ty) (hs : NoSl i) : PE X (.Subscript o i pos) (tGetP X.prog X.w td ty) := by
  refine ⟨fun pins s σ H Q I h => ?_⟩
  refine subD_of PySem.F.slot_dict_getitem.lookup hs (thn (ho.run pins s σ H _ I h) fun u s1 ⟨x, H1, I1, rx, q1⟩ => thn (hi.run pins s1 σ H1 _ I1 q1) fun iv s2 ⟨y, H2, I2, ry, q2⟩ => ?_)
  refine ⟨?_, pget_P hu pins s2 σ H2 x y u iv Q I2 rx ry q2⟩
  obtain ⟨c, p, a, l, z, b, v, e1, e2, hp, hk, _⟩ := q2
  subst e1
  obtain rfl : u = Value.ref p := rx
  obtain ⟨_, _, _, xs, dd, _⟩ := dicP_of I2.hok hp hk
  exact dd.typeIs
theorem putP_pair : ∀ {xs : List (List Leaf × Addr × Value)} {l : List EnP}, PairP xs l → ∀ (z : Str) (b : Bool) (v : V) (r : Value), RelV v r → PairP (xs.map (putAt (keyP z b) r)) (putP l z b v)
  | _, _, .nil, z, b, v, r, rv => .nil
  | x :: xs, y :: l, .cons h t, z, b, v, r, rv => by
    refine .cons ?_ (putP_pair t z b v r rv)
    unfold putAt
    dsimp only
    by_cases q : y.z = z ∧ y.b = b
    · rw [if_pos q, if_pos (show x.1 = keyP z b by rw [h.1, q.1, q.2])]
      exact ⟨h.1, h.2.1, rv⟩
    · rw [if_neg q, if_neg (fun e => q (keyP_inj (h.1.symm.trans e)))]
      exact h
/-- d[z, b] = v, where (z, b) is a key of d -/
def rSetP (P : Program) (w : World) : TSet := fun o i v H Q => ∃ (c : Option Obj) (p a : Addr) (l : List EnP) (z : Str) (b : Bool) (u : V), o = .ref p ∧ i = .ref a ∧ H p = some (DicP P w c p l) ∧ KeysP H l ∧ H a = some (.tup [.str z, .bl b]) ∧ atP l z b = some u ∧ Q (upd H p (DicP P w none p (putP l z b v)))
theorem pset_P {X : Cx} (hu : X.A.units + 1 < cLine) : PSet X (rSetP X.prog X.w) := by
  intro pins s σ H o i v ov iv r Q I r1 r2 r3 ⟨c, p, a, l, z, b, u, e1, e2, hp, hk, ha, hv, q⟩
  subst e1 e2
  obtain rfl : ov = Value.ref p := r1
  obtain rfl : iv = Value.ref a := r2
  obtain ⟨hl, hsys, nd, xs, dd, pr⟩ := dicP_of I.hok hp hk
  obtain ⟨u2, hu2, _⟩ := atP_of pr hv
  refine wpAny_setItem_heap (hsz := by rw [pairP_len pr]; exact hl) (tupleKind_room_in1 hu) (key_P I.hok ha) dd fun h' dd' hs => ⟨_, ?_, q⟩
  rw [storedH_old hu2] at dd'
  have he : ∃ q, h'.get? p = some q := let ⟨q, _, _, hq, _⟩ := dd'; ⟨q, hq⟩
  exact d_write I (by rw [hp]; exact True.intro) hs he (dicP_new dd' (putP_pair pr z b v r r3) (by unfold putP; rw [List.length_map]; exact hl) hsys)
theorem atP_none : ∀ {xs : List (List Leaf × Addr × Value)} {l : List EnP}, PairP xs l → ∀ {z : Str} {b : Bool}, atP l z b = none → atKey xs (keyP z b) = none
  | _, _, .nil, z, b, e => rfl
  | x :: xs, y :: l, .cons h t, z, b, e => by
    unfold atP atKey at *
    rw [List.find?_cons] at e ⊢
    rw [h.1, keyP_dec]
    by_cases q : y.z = z ∧ y.b = b
    · rw [decide_eq_true q] at e
      exact nomatch e
    · rw [decide_eq_false q] at e ⊢
      exact atP_none t e
theorem dicP_empty {P : Program} {w : World} {H : Hp} (h : Heap) (hb : (h.objs.size == sysModules) = false) : ObjOk P w H (h.push { cls := .type "dict", data := .dict #[] }) h.objs.size (DicP P w none h.objs.size []) :=
  dicP_new (xs := []) (Heap.DictOfH.new h) .nil (Nat.zero_le _) hb
/-- a new key of a dict that is being made -/
theorem d_dictSetP {X : Cx} {pins : List (Addr × Obj)} {σ : St} {H : Hp} {s : Shared} {E : Value → Shared → Prop} {c : Option Obj} {D a : Addr} {l : List EnP} {z : Str} {b : Bool} {v : V} {r : Value} {Q : Unit → Shared → Prop} (hu : X.A.units + 1 < cLine) (I : Inv X pins σ H s) (hD : H D = some (DicP X.prog X.w c D l)) (hk : KeysP H l)
    (ha : H a = some (.tup [.str z, .bl b])) (hn : atP l z b = none) (hl : l.length < sizeLine) (rv : RelV v r) (h : ∀ s', Inv X pins σ (upd H D (DicP X.prog X.w none D (l ++ [⟨z, b, a, v⟩]))) s' → Q () s') : wpAny (model X.prog X.w) X.A (dictSet D (.ref a) r) Q E s := by
  obtain ⟨_, hsys, nd, xs, dd, pr⟩ := dicP_of I.hok hD hk
  have hn2 := atP_none pr hn
  refine wpAny_dictSet_heap (hsz := by rw [pairP_len pr]; exact Nat.le_of_lt hl) (show (tkP X.prog X.w).room X.A from Nat.lt_of_succ_lt hu) (key_P I.hok ha) dd fun h' dd' hs => h _ ?_
  rw [storedH_new hn2] at dd'
  have he : ∃ q, h'.get? D = some q := let ⟨q, _, _, hq, _⟩ := dd'; ⟨q, hq⟩
  exact d_write I (by rw [hD]; exact True.intro) hs he (dicP_new dd' (Paired.snoc pr ⟨rfl, rfl, rv⟩) (by rw [List.length_append]; exact hl) hsys)
theorem atP_put {z : Str} {b : Bool} {v : V} {z' : Str} {b' : Bool} : ∀ l : List EnP, atP (putP l z b v) z' b' = if z = z' ∧ b = b' then (atP l z' b').map fun _ => v else atP l z' b'
  | [] => by
    show none = if z = z' ∧ b = b' then (none : Option V).map _ else none
    split <;> rfl
  | y :: l => by
    have ih := atP_put (z := z) (b := b) (v := v) (z' := z') (b' := b') l
    unfold atP putP at ih ⊢
    rw [List.map_cons, List.find?_cons, List.find?_cons]
    by_cases q : y.z = z ∧ y.b = b
    · rw [if_pos q]
      by_cases q2 : z = z' ∧ b = b'
      · rw [if_pos q2, decide_eq_true (show y.z = z' ∧ y.b = b' from ⟨q.1.trans q2.1, q.2.trans q2.2⟩)]
        rfl
      · have q3 : ¬ (y.z = z' ∧ y.b = b') := fun e => q2 ⟨q.1.symm.trans e.1, q.2.symm.trans e.2⟩
        rw [if_neg q2] at ih ⊢
        rw [decide_eq_false q3]
        exact ih
    · rw [if_neg q]
      by_cases q3 : y.z = z' ∧ y.b = b'
      · have q2 : ¬ (z = z' ∧ b = b') := fun e => q ⟨q3.1.trans e.1.symm, q3.2.trans e.2.symm⟩
        rw [if_neg q2, decide_eq_true q3]
      · rw [decide_eq_false q3]
        exact ih
theorem atP_snoc {y : EnP} {z : Str} {b : Bool} : ∀ l : List EnP, atP (l ++ [y]) z b = (atP l z b).or (if y.z = z ∧ y.b = b then some y.v else none)
  | [] => by
    unfold atP
    rw [List.nil_append, List.find?_cons]
    by_cases q : y.z = z ∧ y.b = b
    · rw [decide_eq_true q, if_pos q]; rfl
    · rw [decide_eq_false q, if_neg q]; rfl
  | x :: l => by
    have ih := atP_snoc (y := y) (z := z) (b := b) l
    unfold atP at ih ⊢
    rw [List.cons_append, List.find?_cons, List.find?_cons]
    by_cases q : x.z = z ∧ x.b = b
    · rw [decide_eq_true q]; rfl
    · rw [decide_eq_false q]; exact ih
theorem KeysP.put {H : Hp} {l : List EnP} (k : KeysP H l) (z : Str) (b : Bool) (v : V) : KeysP H (putP l z b v) := fun y hy => by
  obtain ⟨x, hx, e⟩ := List.mem_map.mp hy
  by_cases q : x.z = z ∧ x.b = b
  · rw [if_pos q] at e
    subst e
    exact k x hx
  · rw [if_neg q] at e
    subst e
    exact k x hx
theorem KeysP.snoc {H : Hp} {l : List EnP} {y : EnP} (k : KeysP H l) (h : H y.a = some (.tup [.str y.z, .bl y.b])) : KeysP H (l ++ [y]) := fun x hx => by
  rcases List.mem_append.mp hx with hx | hx
  · exact k x hx
  · cases List.mem_singleton.mp hx
    exact h
end Ts

set_option maxRecDepth 100000
set_option maxHeartbeats 4000000
namespace Ts
open PySem PySem.Spec PyProof.Rows L2
/-! ### dict comprehensions whose keys are of any sort that a `Store` speaks of -/
/-- how a comprehension puts into the dict that it makes -/
structure Store (P : Program) (w : World) where
  new : Addr → HO
  put : Addr → V → V → Hp → (Hp → Prop) → Prop
  empty : ∀ (H : Hp) (h : Heap), sysModules < h.objs.size → ObjOk P w H (h.push { cls := .type "dict", data := .dict #[] }) h.objs.size (new h.objs.size)
  run : ∀ {X : Cx} {pins : List (Addr × Obj)} {σ : L2.St} {H : Hp} {s : Shared} {E : Value → Shared → Prop} {D : Addr} {y z : V} {u r : Value} {N : Hp → Prop} {Q : Unit → Shared → Prop}, X.prog = P → X.w = w → X.A.units + 1 < cLine → Inv X pins σ H s → RelV y u → RelV z r → put D y z H N →
    (∀ H' s', Inv X pins σ H' s' → N H' → Q () s') → wpAny (model X.prog X.w) X.A (dictSet D u r) Q E s
/-- pairs of a text and a truth as keys -/
def storeP (P : Program) (w : World) : Store P w where
  new := fun a => DicP P w none a []
  put := fun D y z H N => ∃ (c : Option Obj) (l : List EnP) (a : Addr) (t : Str) (b : Bool), y = .ref a ∧ H D = some (DicP P w c D l) ∧ KeysP H l ∧ H a = some (.tup [.str t, .bl b]) ∧ atP l t b = none ∧ l.length < sizeLine ∧ N (upd H D (DicP P w none D (l ++ [⟨t, b, a, z⟩])))
  empty := fun H h hb => dicP_empty h (beq_eq_false_iff_ne.mpr fun e => absurd hb (by rw [e]; exact Nat.lt_irrefl _))
  run := fun hP hw hu I ry rz hput h => by
    subst hP hw
    obtain ⟨c, l, a, t, b, rfl, hD, hk, ha, hn, hl, nx⟩ := hput
    cases ry
    exact d_dictSetP hu I hD hk ha hn hl rz fun s' I' => h _ s' I' nx
section
variable {kx vx ta ia tb ib : Expr} {qa qb : List Expr} {scope : Scope} {pos : Pos} {env : Env} {it acc : Value}
theorem turnD_out : compTurn (.DictComp kx vx [⟨ta, ia, qa, 0⟩, ⟨tb, ib, qb, 0⟩] scope pos) 0 it acc env = (do
      standAt ia.pos
      match ← pyNext it with
      | none => pure (.done .next)
      | some thing =>
        letOwnedTupleGo ta it thing
        assign ta env thing
        let mut fine := true
        for q in qa do
          if fine then fine ← isTrue q env (eval q env)
        if fine then
          let src ← eval ib env
          standAt ib.pos
          let src ← foldedSetIterable ib env src
          let _ ← runOwn (.compStart (.DictComp kx vx [⟨ta, ia, qa, 0⟩, ⟨tb, ib, qb, 0⟩] scope pos) 1 (← holding [src] (pyIter src)) acc env) env
        again (.compLoop (.DictComp kx vx [⟨ta, ia, qa, 0⟩, ⟨tb, ib, qb, 0⟩] scope pos) 0 it acc env)) := by rfl
theorem turnD_in {D : Addr} : compTurn (.DictComp kx vx [⟨ta, ia, qa, 0⟩, ⟨tb, ib, qb, 0⟩] scope pos) 1 it (.ref D) env = (do
      standAt ib.pos
      match ← pyNext it with
      | none => pure (.done .next)
      | some thing =>
        letOwnedTupleGo tb it thing
        assign tb env thing
        let mut fine := true
        for q in qb do
          if fine then fine ← isTrue q env (eval q env)
        if fine then
          (do
            let key ← eval kx env
            let val ← holding [key] (eval vx env)
            standAt { kx.pos with endLine := vx.pos.endLine, endCol := vx.pos.endCol }
            holding [key, val] (dictSet D key val))
        again (.compLoop (.DictComp kx vx [⟨ta, ia, qa, 0⟩, ⟨tb, ib, qb, 0⟩] scope pos) 1 it (.ref D) env)) := by rfl
variable {prog : Program} {w : World} {A : Around} {R : Result → Shared → Prop}
abbrev ErrN (prog : Program) (w : World) (A : Around) (env : Env) (R : Result → Shared → Prop) := notedBy (model prog w) A env fun e s' => R (.error e) s'
abbrev testsN (qs : List Expr) (env : Env) : Sem Bool := forIn qs true fun c r => if r = true then do let ok ← isTrue c env (eval c env); pure (ForInStep.yield ok) else pure (ForInStep.yield r)
/-- the outer loop -/
theorem loopD_out (plain : ∀ x, foldedSetIterable ib env x = pure x) (M : Nat → Shared → Prop)
    (turn : ∀ n s, M n s → wpAny (model prog w) A (pyNext it) (fun got s1 => match got with
      | none => R (.ok .next) s1
      | some thing => wpAny (model prog w) A (letOwnedTupleGo ta it thing) (fun _ s2 => wpAny (model prog w) A (assign ta env thing) (fun _ s3 => wpAny (model prog w) A (testsN qa env) (fun fine s4 =>
          if fine = true then wpAny (model prog w) A (eval ib env) (fun src s5 => wpAny (model prog w) A (pyIter src) (fun itb s6 =>
              codeAny (model prog w) A (.compStart (.DictComp kx vx [⟨ta, ia, qa, 0⟩, ⟨tb, ib, qb, 0⟩] scope pos) 1 itb acc env) (fun r s' => match r with
                | .ok _ => ∃ m, m < n ∧ M m s'
                | .error _ => False) s6) (ErrN prog w A env R) s5) (ErrN prog w A env R) s4
          else ∃ m, m < n ∧ M m s4) (ErrN prog w A env R) s3) (ErrN prog w A env R) s2) (ErrN prog w A env R) s1) (ErrN prog w A env R) s)
    (n : Nat) {s : Shared} (h : M n s) : codeAny (model prog w) A (.compLoop (.DictComp kx vx [⟨ta, ia, qa, 0⟩, ⟨tb, ib, qb, 0⟩] scope pos) 0 it acc env) R s := by
  refine codeAny_loop rfl M (fun n s hM => ?_) n h
  show wpAny _ A ((compTurn (.DictComp kx vx [⟨ta, ia, qa, 0⟩, ⟨tb, ib, qb, 0⟩] scope pos) 0 it acc env).onRaise (fun x => do noteFrame x env; theTreesLotGoes x)) _ _ s
  refine wpAny_noted ?_
  rw [turnD_out]
  refine wpAny_bind (wpAny_standAt (wpAny_bind (wpAny_mono (turn n s hM) (fun got s1 g1 => ?_) fun _ _ z => z)))
  match got, g1 with
  | none, g1 => exact wpAny_pure g1
  | some thing, g1 =>
    refine wpAny_bind (wpAny_mono g1 (fun _ s2 g2 => ?_) fun _ _ z => z)
    refine wpAny_bind (wpAny_mono g2 (fun _ s3 g3 => wpAny_bind (wpAny_mono g3 (fun fine s4 g4 => ?_) fun _ _ z => z)) fun _ _ z => z)
    match fine, g4 with
    | false, g4 => exact wpAny_pure ⟨rfl, g4⟩
    | true, g4 =>
      refine wpAny_bind (wpAny_mono g4 (fun src s5 g5 => ?_) fun _ _ z => z)
      refine wpAny_bind (wpAny_standAt (wpAny_bind (wpAny_of_eq (plain src) (wpAny_bind (wpAny_holding (wpAny_mono g5 (fun itb s6 g6 => ?_) fun _ _ z => z))))))
      refine wpAny_bind (wpAny_runOwn ?_)
      rw [Around.mark_none]
      refine codeAny_mono g6 fun r s' hr => ?_
      match r, hr with
      | .ok f, hr =>
        first
          | exact wpAny_pure ⟨rfl, hr⟩
          | exact wpAny_bind (wpAny_pure (wpAny_pure ⟨rfl, hr⟩))
      | .error e, hr => exact hr.elim
/-- the inner loop -/
theorem loopD_in {D : Addr} (M : Nat → Shared → Prop)
    (turn : ∀ n s, M n s → wpAny (model prog w) A (pyNext it) (fun got s1 => match got with
      | none => R (.ok .next) s1
      | some thing => wpAny (model prog w) A (letOwnedTupleGo tb it thing) (fun _ s2 => wpAny (model prog w) A (assign tb env thing) (fun _ s3 => wpAny (model prog w) A (testsN qb env) (fun fine s4 =>
          if fine = true then wpAny (model prog w) A (eval kx env) (fun key s5 => wpAny (model prog w) A (eval vx env) (fun val s6 => wpAny (model prog w) A (dictSet D key val) (fun _ s7 => ∃ m, m < n ∧ M m s7) (ErrN prog w A env R) s6) (ErrN prog w A env R) s5) (ErrN prog w A env R) s4
          else ∃ m, m < n ∧ M m s4) (ErrN prog w A env R) s3) (ErrN prog w A env R) s2) (ErrN prog w A env R) s1) (ErrN prog w A env R) s)
    (n : Nat) {s : Shared} (h : M n s) : codeAny (model prog w) A (.compLoop (.DictComp kx vx [⟨ta, ia, qa, 0⟩, ⟨tb, ib, qb, 0⟩] scope pos) 1 it (.ref D) env) R s := by
  refine codeAny_loop rfl M (fun n s hM => ?_) n h
  show wpAny _ A ((compTurn (.DictComp kx vx [⟨ta, ia, qa, 0⟩, ⟨tb, ib, qb, 0⟩] scope pos) 1 it (.ref D) env).onRaise (fun x => do noteFrame x env; theTreesLotGoes x)) _ _ s
  refine wpAny_noted ?_
  rw [turnD_in]
  refine wpAny_bind (wpAny_standAt (wpAny_bind (wpAny_mono (turn n s hM) (fun got s1 g1 => ?_) fun _ _ z => z)))
  match got, g1 with
  | none, g1 => exact wpAny_pure g1
  | some thing, g1 =>
    refine wpAny_bind (wpAny_mono g1 (fun _ s2 g2 => ?_) fun _ _ z => z)
    refine wpAny_bind (wpAny_mono g2 (fun _ s3 g3 => wpAny_bind (wpAny_mono g3 (fun fine s4 g4 => ?_) fun _ _ z => z)) fun _ _ z => z)
    match fine, g4 with
    | false, g4 => exact wpAny_pure ⟨rfl, g4⟩
    | true, g4 => exact wpAny_bind (wpAny_bind (wpAny_mono g4 (fun key s5 g5 => wpAny_bind (wpAny_holding (wpAny_mono g5 (fun val s6 g6 => wpAny_bind (wpAny_standAt (wpAny_holding (wpAny_mono g6 (fun _ s7 g7 => wpAny_pure ⟨rfl, g7⟩) fun _ _ z => z)))) fun _ _ z => z))) fun _ _ z => z))
theorem startD_in {s : Shared} (h0 : codeAny (model prog w) A (.compLoop (.DictComp kx vx [⟨ta, ia, qa, 0⟩, ⟨tb, ib, qb, 0⟩] scope pos) 1 it acc env) R s)
    (h : wpAny (model prog w) A (pyIter it) (fun it' s' => codeAny (model prog w) A (.compLoop (.DictComp kx vx [⟨ta, ia, qa, 0⟩, ⟨tb, ib, qb, 0⟩] scope pos) 1 it' acc env) R s') (ErrN prog w A env R) s) :
    codeAny (model prog w) A (.compStart (.DictComp kx vx [⟨ta, ia, qa, 0⟩, ⟨tb, ib, qb, 0⟩] scope pos) 1 it acc env) R s := by
  refine codeAny_of_tree ?_
  show wpAny _ _ ((compStart (.DictComp kx vx [⟨ta, ia, qa, 0⟩, ⟨tb, ib, qb, 0⟩] scope pos) 1 it acc env).onRaise (fun x => do noteFrame x env; standAt theWindowsPlace)) _ _ s
  refine wpAny_notedAt ?_
  unfold compStart
  show wpAny _ _ (ask >>= _) _ _ s
  refine wpAny_bind (wpAny_askSetting (wpAny_ite ?_))
  split
  · first
      | exact wpAny_bind (wpAny_pure (wpAny_pure ⟨rfl, h0⟩))
      | exact wpAny_pure ⟨rfl, h0⟩
  · first
      | exact wpAny_bind (wpAny_rule (wpAny_bind (wpAny_standAt (wpAny_bind (wpAny_mono h (fun it2 s2 g2 => wpAny_pure ⟨rfl, g2⟩) fun _ _ z => z)))))
      | (refine wpAny_bind (wpAny_rule ?_); show wpAny _ _ (standAt ib.pos >>= _) _ _ s; exact wpAny_bind (wpAny_standAt (wpAny_bind (wpAny_mono h (fun it2 s2 g2 => wpAny_pure ⟨rfl, g2⟩) fun _ _ z => z))))
end
end Ts

set_option maxRecDepth 100000
set_option maxHeartbeats 4000000
namespace Ts
open PySem PySem.Spec PyProof.Rows L2
section
variable {X : Cx}
abbrev BlkP (X : Cx) (scope : Scope) (F : Cx → Prop) : Prop := ∀ (s : Shared) (H : Hp) (C : Addr) (cl : List (Str × Addr)) (fp : List Addr), F (X.blk s H scope (compEnvC scope cl C X.env) fp)
/-- {k: v for ta in ia if .. for tb in ib if ..} -/
def tDc2 (S : Store X.prog X.w) (wa : TI) (ga : TG) (qa : TT) (wb : TI) (gb : TG) (qb : TT) (tk tv : TE) (vs vsb : List Nat) : TE := fun σ H Q => wa σ H fun J H1 => ∀ D, H1 D = none → ∃ W : Nat → Nat → Hp → Prop, (∃ m, W 0 m (upd H1 D (S.new D))) ∧ ∀ i m H, W i m H →
  (J.stop i H ∧ Q (.ref D) H) ∨ (J.go i H ∧ ∃ N : Hp → Prop, (∀ H', N H' → ∃ m', m' < m ∧ W (i + 1) m' H') ∧ ∀ x H', J.yld i H x H' → ga x (wipe σ vs) H' fun σ2 H2 => wipe σ2 vs = wipe σ vs ∧ qa σ2 H2 fun fine H3 =>
    if fine = true then wb σ2 H3 fun Jb H4 => ∃ Wb : Nat → Nat → Hp → Prop, (∃ m, Wb 0 m H4) ∧ ∀ j k H, Wb j k H →
      (Jb.stop j H ∧ N H) ∨ (Jb.go j H ∧ ∃ Nb : Hp → Prop, (∀ H', Nb H' → ∃ k', k' < k ∧ Wb (j + 1) k' H') ∧ ∀ x H', Jb.yld j H x H' → gb x (wipe σ2 vsb) H' fun σ3 H5 => wipe σ3 vsb = wipe σ2 vsb ∧ qb σ3 H5 fun fineb H6 =>
        if fineb = true then tk σ3 H6 fun y H7 => tv σ3 H7 fun z H8 => S.put D y z H8 Nb else Nb H6)
    else N H3)
theorem dc2_core {pins : List (Addr × Obj)} {s : Shared} {σ : L2.St} {H : Hp} {Q : VK} {kx vx ta ia tb ib : Expr} {ca cb : List Expr} {scope : Scope} {own : List (Str × Nat)} {vsb : List Nat} {pos pos' : Pos} {wa wb : TI} {ga gb : TG} {qa qb : TT} {tk tv : TE} {use : Option (Value → Sem Unit)} {Qf : Value → Shared → Prop} (S : Store X.prog X.w)
    (hu : X.A.units + 1 < cLine) (hc : X.calm = true) (hN : X.N.Nodup) (I : Inv X pins σ H s) (hi : PI X ta ia wa) (ok : BlkOk X.N X.env.scope scope own) (hv : ∀ i ∈ vsb, i ∈ own.map (·.2))
    (hg : BlkP X scope fun Y => PG Y ta ga) (ht : BlkP X scope fun Y => PTs Y ca qa) (hib : BlkP X scope fun Y => PI Y tb ib wb) (hgb : BlkP X scope fun Y => PG Y tb gb) (htb : BlkP X scope fun Y => PTs Y cb qb) (hk : BlkP X scope fun Y => PE Y kx tk) (hz : BlkP X scope fun Y => PE Y vx tv)
    (pla : ∀ x, foldedSetIterable ia X.env x = pure x) (plb : ∀ env x, foldedSetIterable ib env x = pure x) (h : tDc2 S wa ga qa wb gb qb tk tv (own.map (·.2)) vsb σ H Q)
    (out : ∀ D C s' m H', Inv X pins σ H' s' → Q (.ref D) H' → s'.heap.Ns C m → FpOk X pins H' C → compPost (model X.prog X.w) X.A X.xe use Qf (.ref D) C (.ok .next) s') :
    wpAny (model X.prog X.w) X.A (comprehension (.DictComp kx vx [⟨ta, ia, ca, 0⟩, ⟨tb, ib, cb, 0⟩] scope pos) scope X.env pos' newDict false (eval ia X.env) use) Qf X.xe s := by
  have seen : ∀ y ∈ scope.names, y.2 = .free → ∃ c, X.env.cells.lookup y.1 = some c := fun y hy e => (ok.free y hy e).elim (fun k => I.ok.has _ (.inl k)) fun k => I.ok.has _ (.inr k)
  refine wpAny_comprehension_free (use := use) rfl pla (closure_ok seen) ok.kind (fun y hy e => by rw [ok.uniq y hy, e]) (thn (hi.run pins s σ H _ I h) fun _ s1 g1 => thn g1 fun _ s2 g2 => ?_)
  obtain ⟨it, fp, tn, J, H2, rfl, I2, T, st2, f2, q⟩ := g2
  refine wpAny_newObj_type (newEnv_comp ?_)
  generalize eD : s2.heap.objs.size = D
  obtain ⟨W, ⟨m0, w0⟩, turn⟩ := q D (I2.hok.fresh (Nat.le_of_eq eD))
  generalize e3 : ({ s2 with heap := s2.heap.push { cls := .type "dict", data := .dict #[] } } : Shared) = s3
  have hp3 : s3.heap = s2.heap.push { cls := .type "dict", data := .dict #[] } := by rw [← e3]
  have I3 : Inv X pins σ (upd H2 D (S.new D)) s3 := by
    rw [← e3]
    refine I2.laid (t' := s2.toks) (fun b o e => Heap.get?_push_of_some _ e) (Nat.le_of_eq eD) ?_
    rw [← eD]
    exact S.empty _ s2.heap I2.big
  have f3 : ∀ b ∈ fp, FpOk X pins (upd H2 D (S.new D)) b ∧ b < s3.heap.objs.size := fun b hb => by
    obtain ⟨o, eo, _⟩ := T.obj _ _ st2 b hb
    have lt := Heap.lt_size eo
    refine ⟨⟨?_, (f2 b hb).2⟩, by rw [hp3, Heap.size_push]; exact Nat.lt_succ_of_lt lt⟩
    rw [upd_ne (by rw [← eD]; exact Nat.ne_of_lt lt)]
    exact (f2 b hb).1
  have st3 : tn 0 s3.heap := T.keep _ _ _ st2 fun b _ o e => by rw [hp3]; exact Heap.get?_push_of_some _ e
  have I4 := block_start I3 ok hN f3
  generalize ec : cellsFrom (s3.heap.objs.size + 1) scope.names (cloFrom X.env.cells scope.names []) = cs at I4
  have pg := hg s3 (upd H2 D (S.new D)) s3.heap.objs.size cs fp
  have pt := ht s3 (upd H2 D (S.new D)) s3.heap.objs.size cs fp
  have pib := hib s3 (upd H2 D (S.new D)) s3.heap.objs.size cs fp
  have pgb := hgb s3 (upd H2 D (S.new D)) s3.heap.objs.size cs fp
  have ptb := htb s3 (upd H2 D (S.new D)) s3.heap.objs.size cs fp
  have pk := hk s3 (upd H2 D (S.new D)) s3.heap.objs.size cs fp
  have pz := hz s3 (upd H2 D (S.new D)) s3.heap.objs.size cs fp
  show codeAny _ _ (.compStart (.DictComp kx vx [⟨ta, ia, ca, 0⟩, ⟨tb, ib, cb, 0⟩] scope pos) 0 (.ref it) (.ref D) (compEnvC scope cs s3.heap.objs.size X.env)) (compPost (model X.prog X.w) X.A X.xe use Qf (.ref D) s3.heap.objs.size) { s3 with heap := pushCells (s3.heap.push { cls := .type "dict", data := .dict #[] }) scope.names }
  have nfp : ∀ b ∈ fp, (upd H2 D (S.new D)) b = none := fun b hb => (f3 b hb).1.1
  generalize ece : compEnvC scope cs s3.heap.objs.size X.env = ce at I4 pg pt pib pgb ptb pk pz ⊢
  have eL : ce.locals = s3.heap.objs.size := by subst ece; rfl
  generalize eH3 : upd H2 D (S.new D) = H3 at I3 I4 pg pt pib pgb ptb pk pz w0 nfp f3
  generalize e4 : ({ s3 with heap := pushCells (s3.heap.push { cls := .type "dict", data := .dict #[] }) scope.names } : Shared) = s4 at I4 ⊢
  have st4 : tn 0 s4.heap := T.keep _ _ _ st3 fun b _ o e => by rw [← e4]; exact pushCells_keeps _ _ _ _ (Heap.get?_push_of_some _ e)
  have still : ∀ {σ' : L2.St} {H' : Hp} {s' : Shared}, Inv (X.blk s3 H3 scope ce fp) [] σ' H' s' → (∀ b ∈ fp, H' b = none) → ∀ b ∈ fp, FpOk (X.blk s3 H3 scope ce fp) [] H' b := fun {σ' H' s'} I' hn b hb =>
    ⟨hn b hb, (I'.ok.exf b hb).1, I'.ok.exfs b hb, .inl hb, fun x c e => (I'.ok.exf b hb).2 x c e, fun p hp => nomatch (show p ∈ ([] : List (Addr × Obj)) from hp)⟩
  have outer : codeAny (model X.prog X.w) X.A (.compLoop (.DictComp kx vx [⟨ta, ia, ca, 0⟩, ⟨tb, ib, cb, 0⟩] scope pos) 0 (.ref it) (.ref D) ce) (compPost (model X.prog X.w) X.A X.xe use Qf (.ref D) s3.heap.objs.size) s4 := by
    refine loopD_out (plb ce) (fun n s' => ∃ i H', Inv (X.blk s3 H3 scope ce fp) [] (wipe σ (own.map (·.2))) H' s' ∧ tn i s'.heap ∧ (∀ b ∈ fp, H' b = none) ∧ W i n H') ?_ m0 ⟨0, H3, I4, st4, nfp, w0⟩
    rintro n s5 ⟨i, H5, I5, st5, n5, w5⟩
    rcases turn i n H5 w5 with ⟨stop, fin⟩ | ⟨go, N, hNx, step⟩
    · refine thnF (T.done (X.blk s3 H3 scope ce fp) rfl rfl rfl hc i [] s5 _ H5 (fun _ _ => False) I5 (still I5 n5) st5 stop) fun r s6 ⟨hr, I6⟩ => ?_
      subst hr
      have I7 : Inv X pins σ H5 s6 := I3.call' (ch := fp) I6.os I6.base I6.hok I6.bare fun b hb => ⟨(f3 b hb).1.2.2.2.1, (f3 b hb).1.2.1, (f3 b hb).1.2.2.2.2.1, (f3 b hb).1.2.2.2.2.2⟩
      have nL : H5 ce.locals = none := I6.free
      obtain ⟨m, ns, _⟩ := I6.loc
      have ns : s6.heap.Ns ce.locals m := ns
      rw [eL] at ns nL
      exact out D s3.heap.objs.size s6 m H5 I7 fin ns (I3.fpOk (Nat.le_refl _) nL)
    · refine thnF (T.item (X.blk s3 H3 scope ce fp) rfl rfl rfl hc i [] s5 _ H5 (fun _ _ => False) I5 (still I5 n5) st5 go) fun r s6 ⟨u, hr, g6⟩ => ?_
      subst hr
      refine thnF g6 fun _ s7 ⟨x, H7, I7, r7, y7, st7, n7⟩ => ?_
      refine thnF (pg.run _ s7 _ H7 x u _ (I7.pinned (still I7 n7) (T.obj _ _ st7)) r7 (step x H7 y7)) fun _ s8 ⟨σ8, H8, I8, hw8, q8⟩ => ?_
      refine thnF (pt.run _ s8 σ8 H8 _ I8 q8) fun fine s9 ⟨H9, I9, q9⟩ => ?_
      have ends : ∀ {σ9 : L2.St} {s' : Shared} {H' : Hp}, Inv (X.blk s3 H3 scope ce fp) ([] ++ pinsAt fp s7.heap) σ9 H' s' → (wipe σ (own.map (·.2))).length = σ9.length → (∀ (j : Nat) v, (wipe σ (own.map (·.2)))[j]? = some (some v) → σ9[j]? = some (some v)) → N H' →
          ∃ m, m < n ∧ ∃ i H', Inv (X.blk s3 H3 scope ce fp) [] (wipe σ (own.map (·.2))) H' s' ∧ tn i s'.heap ∧ (∀ b ∈ fp, H' b = none) ∧ W i m H' := fun {σ9 s' H'} I' hl hkp nx => by
        obtain ⟨m', hm, w'⟩ := hNx H' nx
        have pinned : ∀ b ∈ fp, ∀ o, s7.heap.get? b = some o → s'.heap.get? b = some o ∧ H' b = none := fun b hb o e =>
          let z := I'.pin (b, o) (List.mem_append_right _ (List.mem_append_right _ (mem_pinsAt hb e)))
          ⟨z.1, z.2.1⟩
        refine ⟨m', hm, i + 1, H', (I'.unpinned (pins := [])).weak hl hkp, T.keep _ _ _ st7 fun b hb o e => (pinned b hb o e).1, fun b hb => ?_, w'⟩
        obtain ⟨o, e, _⟩ := T.obj _ _ st7 b hb
        exact (pinned b hb o e).2
      have l8 : (wipe σ (own.map (·.2))).length = σ8.length := by rw [← hw8, wipe_length]
      have k8 : ∀ (j : Nat) v, (wipe σ (own.map (·.2)))[j]? = some (some v) → σ8[j]? = some (some v) := fun j v e => by
        rw [← hw8] at e
        exact (wipe_some e).1
      have k9 : ∀ (j : Nat) v, (wipe σ (own.map (·.2)))[j]? = some (some v) → (wipe σ8 vsb)[j]? = some (some v) := fun j v e => by
        rw [← hw8] at e
        obtain ⟨a1, a2⟩ := wipe_some e
        rw [wipe_out fun z => a2 (hv j z)]
        exact a1
      match fine, q9 with
      | false, q9 => exact ends I9 l8 k8 q9
      | true, q9 =>
        refine thnF (pib.run _ s9 σ8 H9 _ I9 q9) fun _ s10 g10 => thnF g10 fun _ s11 g11 => ?_
        obtain ⟨it1, fp1, tn1, J1, H11, rfl, I11, T1, st11, f11, W1, ⟨m1, w1⟩, turn1⟩ := g11
        have still1 : ∀ {H' : Hp}, (∀ b ∈ fp1, H' b = none) → ∀ b ∈ fp1, FpOk (X.blk s3 H3 scope ce fp) ([] ++ pinsAt fp s7.heap) H' b := fun hn b hb => ⟨hn b hb, (f11 b hb).2⟩
        have inner : codeAny (model X.prog X.w) X.A (.compLoop (.DictComp kx vx [⟨ta, ia, ca, 0⟩, ⟨tb, ib, cb, 0⟩] scope pos) 1 (.ref it1) (.ref D) ce)
            (fun r s' => match r with
              | .ok _ => ∃ m, m < n ∧ ∃ i H', Inv (X.blk s3 H3 scope ce fp) [] (wipe σ (own.map (·.2))) H' s' ∧ tn i s'.heap ∧ (∀ b ∈ fp, H' b = none) ∧ W i m H'
              | .error _ => False) s11 := by
          refine loopD_in (fun k s' => ∃ j H', Inv (X.blk s3 H3 scope ce fp) ([] ++ pinsAt fp s7.heap) (wipe σ8 vsb) H' s' ∧ tn1 j s'.heap ∧ (∀ b ∈ fp1, H' b = none) ∧ W1 j k H') ?_ m1 ⟨0, H11, I11.weak (wipe_length _ _) (fun j v e => (wipe_some e).1), st11, fun b hb => (f11 b hb).1, w1⟩
          rintro k s12 ⟨j, H12, I12, st12, n12, w12⟩
          rcases turn1 j k H12 w12 with ⟨stop1, nx1⟩ | ⟨go1, Nb, hNb, step1⟩
          · refine thnF (T1.done (X.blk s3 H3 scope ce fp) rfl rfl rfl hc j _ s12 (wipe σ8 vsb) H12 (fun _ _ => False) I12 (still1 n12) st12 stop1) fun r s13 ⟨hr, I13⟩ => ?_
            subst hr
            exact ends I13 (l8.trans (wipe_length σ8 vsb).symm) k9 nx1
          · refine thnF (T1.item (X.blk s3 H3 scope ce fp) rfl rfl rfl hc j _ s12 (wipe σ8 vsb) H12 (fun _ _ => False) I12 (still1 n12) st12 go1) fun r s13 ⟨u1, hr, g13⟩ => ?_
            subst hr
            refine thnF g13 fun _ s14 ⟨x1, H14, I14, r14, y14, st14, n14⟩ => ?_
            refine thnF (pgb.run _ s14 (wipe σ8 vsb) H14 x1 u1 _ (I14.pinned (still1 n14) (T1.obj _ _ st14)) r14 (step1 x1 H14 y14)) fun _ s15 ⟨σ15, H15, I15, hw15, q15⟩ => ?_
            refine thnF (ptb.run _ s15 σ15 H15 _ I15 q15) fun fineb s16 ⟨H16, I16, q16⟩ => ?_
            have ends1 : ∀ {s' : Shared} {H' : Hp}, Inv (X.blk s3 H3 scope ce fp) (([] ++ pinsAt fp s7.heap) ++ pinsAt fp1 s14.heap) σ15 H' s' → Nb H' → ∃ m, m < k ∧ ∃ j H', Inv (X.blk s3 H3 scope ce fp) ([] ++ pinsAt fp s7.heap) (wipe σ8 vsb) H' s' ∧ tn1 j s'.heap ∧ (∀ b ∈ fp1, H' b = none) ∧ W1 j m H' := fun {s' H'} I' nx => by
              obtain ⟨m', hm, w'⟩ := hNb H' nx
              have pinned : ∀ b ∈ fp1, ∀ o, s14.heap.get? b = some o → s'.heap.get? b = some o ∧ H' b = none := fun b hb o e =>
                let z := I'.pin (b, o) (List.mem_append_right _ (List.mem_append_right _ (mem_pinsAt hb e)))
                ⟨z.1, z.2.1⟩
              refine ⟨m', hm, j + 1, H', I'.unpinned.weak (by rw [← hw15, wipe_length]) (fun j v e => by rw [← hw15] at e; exact (wipe_some e).1), T1.keep _ _ _ st14 fun b hb o e => (pinned b hb o e).1, fun b hb => ?_, w'⟩
              obtain ⟨o, e, _⟩ := T1.obj _ _ st14 b hb
              exact (pinned b hb o e).2
            match fineb, q16 with
            | false, q16 => exact ends1 I16 q16
            | true, q16 =>
              refine thnF (pk.run _ s16 σ15 H16 _ I16 q16) fun _ s17 ⟨y, H17, I17, r17, q17⟩ => ?_
              refine thnF (pz.run _ s17 σ15 H17 _ I17 q17) fun _ s18 ⟨z, H18, I18, r18, q18⟩ => ?_
              exact S.run (X := X.blk s3 H3 scope ce fp) rfl rfl hu I18 r17 r18 q18 fun H' s' I' nx => ends1 I' nx
        exact startD_in inner (T1.self X.A 0 _ _ _ st11 inner)
  exact codeAny_compStart_dict outer (T.self X.A 0 _ _ _ st4 outer)
theorem ps_setDc2 {i : Nat} {y : Str} {py : Pos} {kx vx ta ia tb ib : Expr} {ca cb : List Expr} {scope : Scope} {own : List (Str × Nat)} {vsb : List Nat} {pos spos : Pos} {wa wb : TI} {ga gb : TG} {qa qb : TT} {tk tv : TE} (S : Store X.prog X.w) (hu : X.A.units + 1 < cLine) (hc : X.calm = true) (hN : X.N.Nodup) (hy : X.N[i]? = some y) (hyl : X.env.scope.names.lookup y = some .local)
    (hsw : swapsWith (.DictComp kx vx [⟨ta, ia, ca, 0⟩, ⟨tb, ib, cb, 0⟩] scope pos) (some (.Name y py)) spos.line X.env = pure true) (hi : PI X ta ia wa) (ok : BlkOk X.N X.env.scope scope own) (hv : ∀ i ∈ vsb, i ∈ own.map (·.2))
    (hg : BlkP X scope fun Y => PG Y ta ga) (ht : BlkP X scope fun Y => PTs Y ca qa) (hib : BlkP X scope fun Y => PI Y tb ib wb) (hgb : BlkP X scope fun Y => PG Y tb gb) (htb : BlkP X scope fun Y => PTs Y cb qb) (hk : BlkP X scope fun Y => PE Y kx tk) (hz : BlkP X scope fun Y => PE Y vx tv)
    (pla : ∀ x, foldedSetIterable ia X.env x = pure x := by intro _; rfl) (plb : ∀ env x, foldedSetIterable ib env x = pure x := by intro _ _; rfl) :
    PS X (.Assign [.Name y py] (.DictComp kx vx [⟨ta, ia, ca, 0⟩, ⟨tb, ib, cb, 0⟩] scope pos) spos) (tAsg (tDc2 S wa ga qa wb gb qb tk tv (own.map (·.2)) vsb) (gName i)) := by
  refine ⟨fun pins s σ H D I h => ?_⟩
  rw [exec_Assign_Name_used _ _ _ _ hsw]
  refine wpAny_bind (wpAny_standAt (wpAny_bind ?_))
  show wpAny _ X.A (do let _ ← comprehension (.DictComp kx vx [⟨ta, ia, ca, 0⟩, ⟨tb, ib, cb, 0⟩] scope pos) scope X.env (firstIterPos [⟨ta, ia, ca, 0⟩, ⟨tb, ib, cb, 0⟩] pos) newDict false (eval ia X.env) (some (assign (.Name y py) X.env))) _ _ s
  have h2 : tDc2 S wa ga qa wb gb qb tk tv (own.map (·.2)) vsb σ H (fun x H1 => gName i x σ H1 D.nx) := h
  refine wpAny_bind (thn (dc2_core (Qf := fun _ s' => SP X pins D .next s') S hu hc hN I hi ok hv hg ht hib hgb htb hk hz pla plb h2 fun L C s' m H' I' q hn f => ?_) fun _ s' z => wpAny_pure (wpAny_pure z))
  show wpAny _ _ (assign (.Name y py) X.env (.ref L)) _ _ _
  refine wpAny_assign_Name (store_ok2 (v := V.ref L) I' hN hy (.inl hyl) rfl (fun s2 I2 ⟨a, sb, za⟩ => ?_) (.inr hyl))
  obtain ⟨f0, f1, f2, f3, f4, f5⟩ := f
  have ca : C ≠ a := by
    rcases za with z | z
    · rw [z]; exact f1
    · exact fun e => f4 y a z e.symm
  refine ⟨m, hn.sameBut sb ca, fun h3 sb3 => ?_⟩
  exact ⟨_, H', I2.turned (t' := s2.toks) (fun b o hb e => (sb3.2 b hb).trans e) f0 f1 f3 f4 f5, q⟩
/-- {k: v for ta in ia if ..} -/
def tDc1 (S : Store X.prog X.w) (wa : TI) (ga : TG) (qa : TT) (tk tv : TE) (vs : List Nat) : TE := fun σ H Q => wa σ H fun J H1 => ∀ D, H1 D = none → ∃ W : Nat → Nat → Hp → Prop, (∃ m, W 0 m (upd H1 D (S.new D))) ∧ ∀ i m H, W i m H →
  (J.stop i H ∧ Q (.ref D) H) ∨ (J.go i H ∧ ∃ N : Hp → Prop, (∀ H', N H' → ∃ m', m' < m ∧ W (i + 1) m' H') ∧ ∀ x H', J.yld i H x H' → ga x (wipe σ vs) H' fun σ2 H2 => wipe σ2 vs = wipe σ vs ∧ qa σ2 H2 fun fine H3 =>
    if fine = true then tk σ2 H3 fun y H7 => tv σ2 H7 fun z H8 => S.put D y z H8 N else N H3)
theorem dc1_core {pins : List (Addr × Obj)} {s : Shared} {σ : L2.St} {H : Hp} {Q : VK} {kx vx ta ia : Expr} {ca : List Expr} {scope : Scope} {own : List (Str × Nat)} {pos pos' : Pos} {wa : TI} {ga : TG} {qa : TT} {tk tv : TE} {use : Option (Value → Sem Unit)} {Qf : Value → Shared → Prop} (S : Store X.prog X.w)
    (hu : X.A.units + 1 < cLine) (hc : X.calm = true) (hN : X.N.Nodup) (I : Inv X pins σ H s) (hi : PI X ta ia wa) (ok : BlkOk X.N X.env.scope scope own)
    (hg : BlkP X scope fun Y => PG Y ta ga) (ht : BlkP X scope fun Y => PTs Y ca qa) (hk : BlkP X scope fun Y => PE Y kx tk) (hz : BlkP X scope fun Y => PE Y vx tv)
    (pla : ∀ x, foldedSetIterable ia X.env x = pure x) (h : tDc1 S wa ga qa tk tv (own.map (·.2)) σ H Q)
    (out : ∀ D C s' m H', Inv X pins σ H' s' → Q (.ref D) H' → s'.heap.Ns C m → FpOk X pins H' C → compPost (model X.prog X.w) X.A X.xe use Qf (.ref D) C (.ok .next) s') :
    wpAny (model X.prog X.w) X.A (comprehension (.DictComp kx vx [⟨ta, ia, ca, 0⟩] scope pos) scope X.env pos' newDict false (eval ia X.env) use) Qf X.xe s := by
  have seen : ∀ y ∈ scope.names, y.2 = .free → ∃ c, X.env.cells.lookup y.1 = some c := fun y hy e => (ok.free y hy e).elim (fun k => I.ok.has _ (.inl k)) fun k => I.ok.has _ (.inr k)
  refine wpAny_comprehension_free (use := use) rfl pla (closure_ok seen) ok.kind (fun y hy e => by rw [ok.uniq y hy, e]) (thn (hi.run pins s σ H _ I h) fun _ s1 g1 => thn g1 fun _ s2 g2 => ?_)
  obtain ⟨it, fp, tn, J, H2, rfl, I2, T, st2, f2, q⟩ := g2
  refine wpAny_newObj_type (newEnv_comp ?_)
  generalize eD : s2.heap.objs.size = D
  obtain ⟨W, ⟨m0, w0⟩, turn⟩ := q D (I2.hok.fresh (Nat.le_of_eq eD))
  generalize e3 : ({ s2 with heap := s2.heap.push { cls := .type "dict", data := .dict #[] } } : Shared) = s3
  have hp3 : s3.heap = s2.heap.push { cls := .type "dict", data := .dict #[] } := by rw [← e3]
  have I3 : Inv X pins σ (upd H2 D (S.new D)) s3 := by
    rw [← e3]
    refine I2.laid (t' := s2.toks) (fun b o e => Heap.get?_push_of_some _ e) (Nat.le_of_eq eD) ?_
    rw [← eD]
    exact S.empty _ s2.heap I2.big
  have f3 : ∀ b ∈ fp, FpOk X pins (upd H2 D (S.new D)) b ∧ b < s3.heap.objs.size := fun b hb => by
    obtain ⟨o, eo, _⟩ := T.obj _ _ st2 b hb
    have lt := Heap.lt_size eo
    refine ⟨⟨?_, (f2 b hb).2⟩, by rw [hp3, Heap.size_push]; exact Nat.lt_succ_of_lt lt⟩
    rw [upd_ne (by rw [← eD]; exact Nat.ne_of_lt lt)]
    exact (f2 b hb).1
  have st3 : tn 0 s3.heap := T.keep _ _ _ st2 fun b _ o e => by rw [hp3]; exact Heap.get?_push_of_some _ e
  have I4 := block_start I3 ok hN f3
  generalize ec : cellsFrom (s3.heap.objs.size + 1) scope.names (cloFrom X.env.cells scope.names []) = cs at I4
  have pg := hg s3 (upd H2 D (S.new D)) s3.heap.objs.size cs fp
  have pt := ht s3 (upd H2 D (S.new D)) s3.heap.objs.size cs fp
  have pk := hk s3 (upd H2 D (S.new D)) s3.heap.objs.size cs fp
  have pz := hz s3 (upd H2 D (S.new D)) s3.heap.objs.size cs fp
  show codeAny _ _ (.compStart (.DictComp kx vx [⟨ta, ia, ca, 0⟩] scope pos) 0 (.ref it) (.ref D) (compEnvC scope cs s3.heap.objs.size X.env)) (compPost (model X.prog X.w) X.A X.xe use Qf (.ref D) s3.heap.objs.size) { s3 with heap := pushCells (s3.heap.push { cls := .type "dict", data := .dict #[] }) scope.names }
  have nfp : ∀ b ∈ fp, (upd H2 D (S.new D)) b = none := fun b hb => (f3 b hb).1.1
  generalize ece : compEnvC scope cs s3.heap.objs.size X.env = ce at I4 pg pt pk pz ⊢
  have eL : ce.locals = s3.heap.objs.size := by subst ece; rfl
  generalize eH3 : upd H2 D (S.new D) = H3 at I3 I4 pg pt pk pz w0 nfp f3
  generalize e4 : ({ s3 with heap := pushCells (s3.heap.push { cls := .type "dict", data := .dict #[] }) scope.names } : Shared) = s4 at I4 ⊢
  have st4 : tn 0 s4.heap := T.keep _ _ _ st3 fun b _ o e => by rw [← e4]; exact pushCells_keeps _ _ _ _ (Heap.get?_push_of_some _ e)
  have still : ∀ {σ' : L2.St} {H' : Hp} {s' : Shared}, Inv (X.blk s3 H3 scope ce fp) [] σ' H' s' → (∀ b ∈ fp, H' b = none) → ∀ b ∈ fp, FpOk (X.blk s3 H3 scope ce fp) [] H' b := fun {σ' H' s'} I' hn b hb =>
    ⟨hn b hb, (I'.ok.exf b hb).1, I'.ok.exfs b hb, .inl hb, fun x c e => (I'.ok.exf b hb).2 x c e, fun p hp => nomatch (show p ∈ ([] : List (Addr × Obj)) from hp)⟩
  have outer : codeAny (model X.prog X.w) X.A (.compLoop (.DictComp kx vx [⟨ta, ia, ca, 0⟩] scope pos) 0 (.ref it) (.ref D) ce) (compPost (model X.prog X.w) X.A X.xe use Qf (.ref D) s3.heap.objs.size) s4 := by
    refine compLoop_anyD (fun n s' => ∃ i H', Inv (X.blk s3 H3 scope ce fp) [] (wipe σ (own.map (·.2))) H' s' ∧ tn i s'.heap ∧ (∀ b ∈ fp, H' b = none) ∧ W i n H') ?_ m0 ⟨0, H3, I4, st4, nfp, w0⟩
    rintro n s5 ⟨i, H5, I5, st5, n5, w5⟩
    rcases turn i n H5 w5 with ⟨stop, fin⟩ | ⟨go, N, hNx, step⟩
    · refine thnF (T.done (X.blk s3 H3 scope ce fp) rfl rfl rfl hc i [] s5 _ H5 (fun _ _ => False) I5 (still I5 n5) st5 stop) fun r s6 ⟨hr, I6⟩ => ?_
      subst hr
      have I7 : Inv X pins σ H5 s6 := I3.call' (ch := fp) I6.os I6.base I6.hok I6.bare fun b hb => ⟨(f3 b hb).1.2.2.2.1, (f3 b hb).1.2.1, (f3 b hb).1.2.2.2.2.1, (f3 b hb).1.2.2.2.2.2⟩
      have nL : H5 ce.locals = none := I6.free
      obtain ⟨m, ns, _⟩ := I6.loc
      have ns : s6.heap.Ns ce.locals m := ns
      rw [eL] at ns nL
      exact out D s3.heap.objs.size s6 m H5 I7 fin ns (I3.fpOk (Nat.le_refl _) nL)
    · refine thnF (T.item (X.blk s3 H3 scope ce fp) rfl rfl rfl hc i [] s5 _ H5 (fun _ _ => False) I5 (still I5 n5) st5 go) fun r s6 ⟨u, hr, g6⟩ => ?_
      subst hr
      refine thnF g6 fun _ s7 ⟨x, H7, I7, r7, y7, st7, n7⟩ => ?_
      refine thnF (pg.run _ s7 _ H7 x u _ (I7.pinned (still I7 n7) (T.obj _ _ st7)) r7 (step x H7 y7)) fun _ s8 ⟨σ8, H8, I8, hw8, q8⟩ => ?_
      refine thnF (pt.run _ s8 σ8 H8 _ I8 q8) fun fine s9 ⟨H9, I9, q9⟩ => ?_
      have ends : ∀ {s' : Shared} {H' : Hp}, Inv (X.blk s3 H3 scope ce fp) ([] ++ pinsAt fp s7.heap) σ8 H' s' → N H' →
          ∃ m, m < n ∧ ∃ i H', Inv (X.blk s3 H3 scope ce fp) [] (wipe σ (own.map (·.2))) H' s' ∧ tn i s'.heap ∧ (∀ b ∈ fp, H' b = none) ∧ W i m H' := fun {s' H'} I' nx => by
        obtain ⟨m', hm, w'⟩ := hNx H' nx
        have pinned : ∀ b ∈ fp, ∀ o, s7.heap.get? b = some o → s'.heap.get? b = some o ∧ H' b = none := fun b hb o e =>
          let z := I'.pin (b, o) (List.mem_append_right _ (List.mem_append_right _ (mem_pinsAt hb e)))
          ⟨z.1, z.2.1⟩
        refine ⟨m', hm, i + 1, H', (I'.unpinned (pins := [])).weak (by rw [← hw8, wipe_length]) (fun j v e => by rw [← hw8] at e; exact (wipe_some e).1), T.keep _ _ _ st7 fun b hb o e => (pinned b hb o e).1, fun b hb => ?_, w'⟩
        obtain ⟨o, e, _⟩ := T.obj _ _ st7 b hb
        exact (pinned b hb o e).2
      match fine, q9 with
      | false, q9 => exact ends I9 q9
      | true, q9 =>
        refine thnF (pk.run _ s9 σ8 H9 _ I9 q9) fun _ s10 ⟨y, H10, I10, r10, q10⟩ => ?_
        refine thnF (pz.run _ s10 σ8 H10 _ I10 q10) fun _ s11 ⟨z, H11, I11, r11, q11⟩ => ?_
        exact S.run (X := X.blk s3 H3 scope ce fp) rfl rfl hu I11 r10 r11 q11 fun H' s' I' nx => ends I' nx
  exact codeAny_compStart_dict outer (T.self X.A 0 _ _ _ st4 outer)
/-- as a value -/
theorem pe_dc1 {kx vx ta ia : Expr} {ca : List Expr} {scope : Scope} {own : List (Str × Nat)} {pos : Pos} {wa : TI} {ga : TG} {qa : TT} {tk tv : TE} (S : Store X.prog X.w) (hu : X.A.units + 1 < cLine) (hc : X.calm = true) (hN : X.N.Nodup) (hi : PI X ta ia wa) (ok : BlkOk X.N X.env.scope scope own)
    (hg : BlkP X scope fun Y => PG Y ta ga) (ht : BlkP X scope fun Y => PTs Y ca qa) (hk : BlkP X scope fun Y => PE Y kx tk) (hz : BlkP X scope fun Y => PE Y vx tv) (pla : ∀ x, foldedSetIterable ia X.env x = pure x := by intro _; rfl) :
    PE X (.DictComp kx vx [⟨ta, ia, ca, 0⟩] scope pos) (tDc1 S wa ga qa tk tv (own.map (·.2))) := by
  refine ⟨fun pins s σ H Q I h => ?_⟩
  rw [arm_eval_DictComp]
  refine dc1_core S hu hc hN I hi ok hg ht hk hz pla h fun D C s' m H' I' q hn f => ⟨m, hn, fun h2 sb => ?_⟩
  obtain ⟨f0, f1, f2, f3, f4, f5⟩ := f
  exact ⟨.ref D, H', I'.turned (t' := s'.toks) (fun b o hb e => (sb.2 b hb).trans e) f0 f1 f3 f4 f5, rfl, q⟩
theorem ps_setDc1 {i : Nat} {y : Str} {py : Pos} {kx vx ta ia : Expr} {ca : List Expr} {scope : Scope} {own : List (Str × Nat)} {pos spos : Pos} {wa : TI} {ga : TG} {qa : TT} {tk tv : TE} (S : Store X.prog X.w) (hu : X.A.units + 1 < cLine) (hc : X.calm = true) (hN : X.N.Nodup) (hy : X.N[i]? = some y) (hyl : X.env.scope.names.lookup y = some .local)
    (hsw : swapsWith (.DictComp kx vx [⟨ta, ia, ca, 0⟩] scope pos) (some (.Name y py)) spos.line X.env = pure true) (hi : PI X ta ia wa) (ok : BlkOk X.N X.env.scope scope own)
    (hg : BlkP X scope fun Y => PG Y ta ga) (ht : BlkP X scope fun Y => PTs Y ca qa) (hk : BlkP X scope fun Y => PE Y kx tk) (hz : BlkP X scope fun Y => PE Y vx tv) (pla : ∀ x, foldedSetIterable ia X.env x = pure x := by intro _; rfl) :
    PS X (.Assign [.Name y py] (.DictComp kx vx [⟨ta, ia, ca, 0⟩] scope pos) spos) (tAsg (tDc1 S wa ga qa tk tv (own.map (·.2))) (gName i)) := by
  refine ⟨fun pins s σ H D I h => ?_⟩
  rw [exec_Assign_Name_used _ _ _ _ hsw]
  refine wpAny_bind (wpAny_standAt (wpAny_bind ?_))
  show wpAny _ X.A (do let _ ← comprehension (.DictComp kx vx [⟨ta, ia, ca, 0⟩] scope pos) scope X.env (firstIterPos [⟨ta, ia, ca, 0⟩] pos) newDict false (eval ia X.env) (some (assign (.Name y py) X.env))) _ _ s
  have h2 : tDc1 S wa ga qa tk tv (own.map (·.2)) σ H (fun x H1 => gName i x σ H1 D.nx) := h
  refine wpAny_bind (thn (dc1_core (Qf := fun _ s' => SP X pins D .next s') S hu hc hN I hi ok hg ht hk hz pla h2 fun L C s' m H' I' q hn f => ?_) fun _ s' z => wpAny_pure (wpAny_pure z))
  show wpAny _ _ (assign (.Name y py) X.env (.ref L)) _ _ _
  refine wpAny_assign_Name (store_ok2 (v := V.ref L) I' hN hy (.inl hyl) rfl (fun s2 I2 ⟨a, sb, za⟩ => ?_) (.inr hyl))
  obtain ⟨f0, f1, f2, f3, f4, f5⟩ := f
  have ca : C ≠ a := by
    rcases za with z | z
    · rw [z]; exact f1
    · exact fun e => f4 y a z e.symm
  refine ⟨m, hn.sameBut sb ca, fun h3 sb3 => ?_⟩
  exact ⟨_, H', I2.turned (t' := s2.toks) (fun b o hb e => (sb3.2 b hb).trans e) f0 f1 f3 f4 f5, q⟩
end
end Ts

set_option maxRecDepth 100000
set_option maxHeartbeats 4000000
namespace Ts
open PySem PySem.Spec PyProof.Rows L2
/-! ### a walk over the pairs that are the keys of a dict -/
theorem pairP_get {xs : List (List Leaf × Addr × Value)} {l : List EnP} (h : PairP xs l) : ∀ {i : Nat} {y : EnP}, l[i]? = some y → ∃ x, xs[i]? = some x ∧ x.2.1 = y.a := by
  induction h with
  | nil => intro i y e; simp at e
  | cons r t ih =>
    intro i y e
    cases i with
    | zero =>
      simp only [List.getElem?_cons_zero, Option.some.injEq] at e
      exact ⟨_, rfl, by rw [← e]; exact r.2.1⟩
    | succ j =>
      simp only [List.getElem?_cons_succ] at e ⊢
      exact ih e
section
variable {X : Cx} {pins : List (Addr × Obj)} {σ : L2.St} {H : Hp} {s : Shared} {d : Addr} {od : Obj} {c : Option Obj} {l : List EnP}
theorem frzP (I : Inv X pins σ H s) (h : H d = some (.frz od (DicP X.prog X.w c d l))) :
    (d == sysModules) = false ∧ s.heap.get? d = some od ∧ od.ExactDict ∧ ∃ (es : Array DictEntry) (ep : Nat), od.data = .dict es ep ∧ es.size = l.length ∧ ∀ (i : Nat) (y : EnP), l[i]? = some y → ∃ en, es[i]? = some en ∧ en.key = .ref y.a := by
  have z := I.hok d _ h
  unfold DicP ObjOk at z
  obtain ⟨hd, z⟩ := z
  unfold ObjOk at z
  obtain ⟨⟨o, es, ep, xs, _, h1, h2, h3, h4, h5, h6, h7, h8⟩, _⟩ := z
  rw [hd] at h1
  cases h1
  refine ⟨h8, hd, h2, es, ep, h3, ?_, fun i y hy => ?_⟩
  · have := size_of_entries h4
    rw [this, pairP_len h5]
  · obtain ⟨x, hx, hk⟩ := pairP_get h5 hy
    have := entry_at h4 i
    rw [hx] at this
    exact ⟨_, this, by rw [← hk]; rfl⟩
end
def ItP (P : Program) (w : World) (c : Option Obj) (p : Addr) (od : Obj) (l : List EnP) : It :=
  ⟨fun i H => H p = some (.frz od (DicP P w c p l)) ∧ i < l.length, fun i H x H' => H' = H ∧ ∃ y, l[i]? = some y ∧ x = .ref y.a, fun i H => H p = some (.frz od (DicP P w c p l)) ∧ l.length ≤ i⟩
theorem turnP {P : Program} {w : World} {K : PySem.W.Frag} {tg : Expr} {c : Option Obj} {d : Addr} {od : Obj} {es : Array DictEntry} {ep : Nat} {l : List EnP} (it : Addr) (hod : od.data = .dict es ep) :
    Turn P w K tg (ItP P w c d od l) [it] it (fun i h => h.IsKeyIter it d i l.length ep) where
  mem := List.mem_singleton_self it
  obj := fun i h st b hb => by
    cases List.mem_singleton.mp hb
    obtain ⟨oi, e, _, dd⟩ := st
    exact ⟨oi, e, fun v z => by rw [dd] at z; cases z⟩
  keep := fun i h h' st k => st.at fun oi e => k it (List.mem_singleton_self it) oi e
  item := by
    intro X hP hw hK hc i pins s σ H E I hf st hg
    subst hP hw hK
    obtain ⟨hd, hi⟩ := hg
    obtain ⟨f0, f1, f2, f3, f4, f5⟩ := hf it (List.mem_singleton_self it)
    obtain ⟨_, hgd, _, es', ep', hdt, hsz, ent⟩ := frzP I hd
    obtain ⟨rfl, rfl⟩ := dict_ep hod hdt
    obtain ⟨en, hen, hkey⟩ := ent i l[i] (List.getElem?_eq_getElem hi)
    refine next_key_item st hgd hdt hsz hen fun h' st2 sb => ?_
    have I1 : Inv X pins σ H { s with heap := h' } := I.turned (t' := s.toks) (fun b ob hb e => (sb.2 b hb).trans e) f0 f1 f3 f4 f5
    obtain ⟨oi, e, cc, dd⟩ := id st2
    exact ⟨en.key, rfl, go_of (s := { s with heap := h' }) e cc dd (by decide) ⟨.ref l[i].a, H, I1, hkey, ⟨rfl, l[i], List.getElem?_eq_getElem hi, rfl⟩, st2, fun b hb => (hf b hb).1⟩⟩
  done := by
    intro X hP hw hK hc i pins s σ H E I hf st hg
    subst hP hw hK
    obtain ⟨hd, hi⟩ := hg
    obtain ⟨f0, f1, f2, f3, f4, f5⟩ := hf it (List.mem_singleton_self it)
    obtain ⟨_, hgd, _, es', ep', hdt, hsz, _⟩ := frzP I hd
    obtain ⟨rfl, rfl⟩ := dict_ep hod hdt
    exact next_key_end (I.ok.hd hc) st hgd hdt hsz hi fun h' eb => ⟨rfl, I.turned (t' := s.toks) (fun b ob hb e => eb b ob hb e) f0 f1 f3 f4 f5⟩
  self := fun A i s Q E st h => wpAny_pyIter_keyiter st h
def iKeysP (P : Program) (w : World) (td : TE) : TI := fun σ H R => td σ H fun x H1 => ∃ d od c l, x = .ref d ∧ H1 d = some (.frz od (DicP P w c d l)) ∧ R (ItP P w c d od l) H1
theorem pi_keysP {X : Cx} {tg e : Expr} {td : TE} (he : PE X e td) : PI X tg e (iKeysP X.prog X.w td) := by
  refine ⟨fun pins s σ H R I h => ?_⟩
  refine thn (he.run pins s σ H _ I h) fun u s1 ⟨x, H1, I1, rx, d, od, c, l, ex, hd, q⟩ => ?_
  subst ex
  obtain rfl : u = Value.ref d := rx
  obtain ⟨hs, hgd, hx, es, ep, hdt, hsz, _⟩ := frzP I1 hd
  refine iter_keys hs hgd hx hdt (pi_one (tk := s1.toks) I1 _ (turnP _ hdt) ⟨_, Heap.get?_push_size _ rfl, rfl, ?_⟩ q)
  rw [hsz] <;> rfl
theorem walkP {P : Program} {w : World} {c : Option Obj} {d : Addr} {od : Obj} {l : List EnP} : Walk (ItP P w c d od l) l.length (fun H => H d = some (.frz od (DicP P w c d l))) (fun i H x H' => H' = H ∧ ∃ y, l[i]? = some y ∧ x = .ref y.a) :=
  ⟨fun _ _ hi q => ⟨q, hi⟩, fun _ q => ⟨q, Nat.le_refl _⟩, fun _ _ _ _ _ _ y => y⟩
/-! ### walks of a comprehension -/
theorem dc1_walk {P : Program} {w : World} {S : Store P w} {J : It} {n : Nat} {G : Hp → Prop} {Y : Nat → Hp → V → Hp → Prop} (wk : Walk J n G Y) {ga : TG} {qa : TT} {tk tv : TE} {vs : List Nat} {σ : L2.St} {H0 : Hp} {D : Addr} {Qd : Hp → Prop} (I : Nat → Hp → Prop) (start : I 0 (upd H0 D (S.new D))) (stays : ∀ i H, i ≤ n → I i H → G H)
    (turn : ∀ i x H H', i < n → I i H → Y i H x H' → ga x (wipe σ vs) H' fun σ2 H2 => wipe σ2 vs = wipe σ vs ∧ qa σ2 H2 fun fine H3 => if fine = true then tk σ2 H3 fun y H7 => tv σ2 H7 fun z H8 => S.put D y z H8 (I (i + 1)) else I (i + 1) H3)
    (done : ∀ H, I n H → Qd H) : ∃ W : Nat → Nat → Hp → Prop, (∃ m, W 0 m (upd H0 D (S.new D))) ∧ ∀ i m H, W i m H →
      (J.stop i H ∧ Qd H) ∨ (J.go i H ∧ ∃ N : Hp → Prop, (∀ H', N H' → ∃ m', m' < m ∧ W (i + 1) m' H') ∧ ∀ x H', J.yld i H x H' → ga x (wipe σ vs) H' fun σ2 H2 => wipe σ2 vs = wipe σ vs ∧ qa σ2 H2 fun fine H3 =>
        if fine = true then tk σ2 H3 fun y H7 => tv σ2 H7 fun z H8 => S.put D y z H8 N else N H3) := by
  refine ⟨fun i m H => m = n - i ∧ i ≤ n ∧ I i H, ⟨n, by simp, Nat.zero_le _, start⟩, ?_⟩
  rintro i m H ⟨rfl, hi, here⟩
  have ok := stays i H hi here
  rcases Nat.lt_or_ge i n with lt | ge
  · exact .inr ⟨wk.goes i H lt ok, I (i + 1), fun H' h' => ⟨n - (i + 1), by omega, rfl, lt, h'⟩, fun x H' y => turn i x H H' lt here (wk.yields i H x H' lt ok y)⟩
  · obtain rfl : i = n := Nat.le_antisymm hi ge
    exact .inl ⟨wk.stops H ok, done H here⟩
theorem walk2 {J : It} {n : Nat} {G : Hp → Prop} {Y : Nat → Hp → V → Hp → Prop} (wk : Walk J n G Y) {B : V → Hp → (Hp → Prop) → Prop} {Dn : Hp → Prop} {H0 : Hp} (I : Nat → Hp → Prop) (start : I 0 H0) (stays : ∀ i H, i ≤ n → I i H → G H)
    (turn : ∀ i x H H', i < n → I i H → Y i H x H' → B x H' (I (i + 1))) (done : ∀ H, I n H → Dn H) :
    ∃ W : Nat → Nat → Hp → Prop, (∃ m, W 0 m H0) ∧ ∀ i m H, W i m H → (J.stop i H ∧ Dn H) ∨ (J.go i H ∧ ∃ N : Hp → Prop, (∀ H', N H' → ∃ m', m' < m ∧ W (i + 1) m' H') ∧ ∀ x H', J.yld i H x H' → B x H' N) := by
  refine ⟨fun i m H => m = n - i ∧ i ≤ n ∧ I i H, ⟨n, by simp, Nat.zero_le _, start⟩, ?_⟩
  rintro i m H ⟨rfl, hi, here⟩
  have ok := stays i H hi here
  rcases Nat.lt_or_ge i n with lt | ge
  · exact .inr ⟨wk.goes i H lt ok, I (i + 1), fun H' h' => ⟨n - (i + 1), by omega, rfl, lt, h'⟩, fun x H' y => turn i x H H' lt here (wk.yields i H x H' lt ok y)⟩
  · obtain rfl : i = n := Nat.le_antisymm hi ge
    exact .inl ⟨wk.stops H ok, done H here⟩
end Ts

set_option maxRecDepth 100000
set_option maxHeartbeats 4000000
namespace Ts
open PySem PySem.Spec PyProof.Rows L2
theorem ip_mulW {X : Cx} : PIp X .Mult (fun x y H Q => ∃ i j, x = .int i ∧ y = .int j ∧ CMulW i j ∧ Q (.int (i * j)) H) := by
  intro pins s σ H x y v u Q I r1 r2 h
  obtain ⟨i, j, rfl, rfl, hc, q⟩ := h
  obtain ⟨t, rfl⟩ := r1
  obtain ⟨t', rfl⟩ := r2
  exact imul_int ⟨.int _, H, I.tok _, ⟨_, rfl⟩, q⟩ hc.ok
/-- a table of values by places and truths -/
def PTab (P : Program) (w : World) (H : Hp) (p : Addr) (ps : List Str) (f : Str → Bool → V) : Prop := ∃ l, H p = some (DicP P w none p l) ∧ KeysP H l ∧ ∀ z ∈ ps, ∀ b, atP l z b = some (f z b)
theorem KeysP.keep {H H' : Hp} {l : List EnP} (k : KeysP H l) (s : ∀ b xs, H b = some (.tup xs) → H' b = some (.tup xs)) : KeysP H' l := fun y hy => s _ _ (k y hy)
theorem PTab.same {P : Program} {w : World} {H H' : Hp} {p : Addr} {ps : List Str} {f : Str → Bool → V} (h : PTab P w H p ps f) (s : Same H H') : PTab P w H' p ps f := let ⟨l, h1, h2, h3⟩ := h; ⟨l, s _ _ h1, h2.keep fun b xs e => s _ _ e, h3⟩
theorem PTab.imp {P : Program} {w : World} {H : Hp} {p : Addr} {ps : List Str} {f g : Str → Bool → V} (h : PTab P w H p ps f) (e : ∀ z ∈ ps, ∀ b, f z b = g z b) : PTab P w H p ps g := let ⟨l, h1, h2, h3⟩ := h; ⟨l, h1, h2, fun z hz b => by rw [← e z hz b]; exact h3 z hz b⟩
/-- reading -/
theorem PTab.get {P : Program} {w : World} {H : Hp} {p a : Addr} {ps : List Str} {f : Str → Bool → V} {z : Str} {b : Bool} {Q : VK} (h : PTab P w H p ps f) (hz : z ∈ ps) (ha : H a = some (.tup [.str z, .bl b])) (q : Q (f z b) H) : rGetP P w (.ref p) (.ref a) H Q :=
  let ⟨l, h1, h2, h3⟩ := h
  ⟨none, p, a, l, z, b, f z b, rfl, rfl, h1, h2, ha, h3 z hz b, q⟩
/-- writing -/
theorem PTab.set {P : Program} {w : World} {H : Hp} {p a : Addr} {ps : List Str} {f : Str → Bool → V} {z : Str} {b : Bool} {v : V} {Q : Hp → Prop} (h : PTab P w H p ps f) (hz : z ∈ ps) (ha : H a = some (.tup [.str z, .bl b]))
    (q : ∀ H', (∀ c o, c ≠ p → H c = some o → H' c = some o) → PTab P w H' p ps (fun z' b' => if z = z' ∧ b = b' then v else f z' b') → Q H') : rSetP P w (.ref p) (.ref a) v H Q := by
  obtain ⟨l, h1, h2, h3⟩ := h
  refine ⟨none, p, a, l, z, b, f z b, rfl, rfl, h1, h2, ha, h3 z hz b, q _ (fun c o n e => by rw [upd_ne n]; exact e) ⟨_, upd_same, (h2.put z b v).keep fun c xs e => ?_, fun z' hz' b' => ?_⟩⟩
  · rw [upd_ne fun x => by rw [x, h1] at e; cases e]; exact e
  · rw [atP_put, h3 z' hz' b']
    show _ = some (if z = z' ∧ b = b' then v else f z' b')
    by_cases q : z = z' ∧ b = b'
    · rw [if_pos q, if_pos q]; rfl
    · rw [if_neg q, if_neg q]
/-- another table stays where one is written -/
theorem PTab.other {P : Program} {w : World} {H H' : Hp} {p d : Addr} {ps : List Str} {f : Str → Bool → V} {o : HO} (h : PTab P w H p ps f) (s : ∀ c o, c ≠ d → H c = some o → H' c = some o) (hd : H d = some o) (no : ∀ xs, o ≠ .tup xs) (n : p ≠ d) : PTab P w H' p ps f :=
  let ⟨l, h1, h2, h3⟩ := h
  ⟨l, s _ _ n h1, h2.keep fun b xs e => s _ _ (fun x => by rw [x, hd] at e; exact no _ (Option.some.inj e)) e, h3⟩
theorem PTab.has {P : Program} {w : World} {H : Hp} {p : Addr} {ps : List Str} {f : Str → Bool → V} (h : PTab P w H p ps f) : ∃ l, H p = some (DicP P w none p l) := let ⟨l, h1, _⟩ := h; ⟨l, h1⟩
abbrev keysP (l : List EnP) : List (Str × Bool) := l.map fun y => (y.z, y.b)
theorem atP_not {z : Str} {b : Bool} : ∀ {l : List EnP}, atP l z b = none → (z, b) ∉ keysP l
  | [], _ => List.not_mem_nil
  | y :: l, h => by
    unfold atP at h
    rw [List.find?_cons] at h
    intro m
    by_cases q : y.z = z ∧ y.b = b
    · rw [decide_eq_true q] at h; cases h
    · rw [decide_eq_false q] at h
      rcases List.mem_cons.mp m with e | m
      · exact q ⟨(congrArg Prod.fst e).symm, (congrArg Prod.snd e).symm⟩
      · exact atP_not (l := l) h m
theorem ndP_snoc {l : List EnP} {z : Str} {b : Bool} {a : Addr} {v : V} (nd : (keysP l).Nodup) (h : atP l z b = none) : (keysP (l ++ [⟨z, b, a, v⟩])).Nodup := by
  unfold keysP
  rw [List.map_append, List.nodup_append]
  refine ⟨nd, by simp, fun x hx y hy e => ?_⟩
  rw [List.mem_singleton.mp hy] at e
  have e2 : x = (z, b) := e
  exact atP_not h (by rw [← e2]; exact hx)
/-- the same keys with one value -/
def oneP (c : V) (l : List EnP) : List EnP := l.map fun y => ⟨y.z, y.b, y.a, c⟩
theorem oneP_keys (c : V) (l : List EnP) : keysP (oneP c l) = keysP l := by
  unfold keysP oneP
  rw [List.map_map]; rfl
theorem atP_mem {z : Str} {b : Bool} {v : V} : ∀ {l : List EnP}, atP l z b = some v → (z, b) ∈ keysP l
  | [], h => nomatch h
  | y :: l, h => by
    unfold atP at h
    rw [List.find?_cons] at h
    by_cases q : y.z = z ∧ y.b = b
    · exact List.mem_cons.mpr (.inl (show (z, b) = (y.z, y.b) by rw [q.1, q.2]))
    · rw [decide_eq_false q] at h
      exact List.mem_cons_of_mem _ (atP_mem (l := l) h)
theorem atP_one (c : V) (z : Str) (b : Bool) : ∀ l : List EnP, atP (oneP c l) z b = (atP l z b).map fun _ => c
  | [] => rfl
  | y :: l => by
    have ih := atP_one c z b l
    unfold atP oneP at ih ⊢
    rw [List.map_cons, List.find?_cons, List.find?_cons]
    by_cases q : y.z = z ∧ y.b = b
    · rw [decide_eq_true q]; rfl
    · rw [decide_eq_false q]; exact ih
theorem atP_next {c : V} {l : List EnP} (nd : (keysP l).Nodup) {i : Nat} {y : EnP} (h : l[i]? = some y) : atP (oneP c (l.take i)) y.z y.b = none := by
  cases e : atP (oneP c (l.take i)) y.z y.b with
  | none => rfl
  | some v =>
    have m := atP_mem e
    rw [oneP_keys] at m
    obtain ⟨j, hj, ej⟩ := List.mem_iff_getElem.mp m
    have lt : j < i := by
      have : j < ((l.take i).map fun y => (y.z, y.b)).length := hj
      rw [List.length_map, List.length_take] at this; omega
    have hi := (List.getElem?_eq_some_iff.mp h).1
    have e1 : (keysP l)[j]? = some (y.z, y.b) := by
      unfold keysP at ej ⊢
      rw [List.getElem_map, List.getElem_take] at ej
      rw [List.getElem?_map, List.getElem?_eq_getElem (by omega)]
      exact congrArg some ej
    have e2 : (keysP l)[i]? = some (y.z, y.b) := by
      unfold keysP
      rw [List.getElem?_map, h]; rfl
    have := (List.getElem?_inj (i := j) (j := i) (by unfold keysP; rw [List.length_map]; omega) nd).mp (e1.trans e2.symm)
    omega
theorem KeysP.one {H : Hp} {l : List EnP} (k : KeysP H l) (c : V) : KeysP H (oneP c l) := fun y hy => by
  obtain ⟨x, hx, rfl⟩ := List.mem_map.mp hy
  exact k x hx
end Ts

set_option maxRecDepth 100000
set_option maxHeartbeats 8000000
namespace Ts
open PySem L2
structure TxU (K : PySem.W.Frag) (mg : Str → Option Value) where
  A : Addr
  g : mg "VALUES" = some (.ref A)
  t : ∀ H, SqT K H A [.bl false, .bl true]
abbrev PTI (P : Program) (w : World) (H : Hp) (p : Addr) (rs : List Row) (f : Tab) : Prop := PTab P w H p (plc rs) (fun z b => .int (f z b))
def spChoices (P : Program) (w : World) (C : Addr) : Sp := fun vs H Q _ => ∃ (t ed : Addr) (rs : List Row) (es : Wsh), vs = [.ref t, .ref ed] ∧ TreeAt C H t rs ∧ H ed = some (.dK (kvE es)) ∧ EndsOk rs es ∧
  ∀ (T A B : Addr) (H' : Hp), Same H H' → H' T = some (.tup [.ref A, .ref B]) → PTI P w H' A rs (tabF rs es) → PTI P w H' B rs (numF rs es) → Q (.ref T) H'
/-- a turn's tables: done for the first values alone -/
def parT (j : Nat) (f f' : Tab) : Tab := fun z b => if (b = false ∧ 1 ≤ j) ∨ (b = true ∧ 2 ≤ j) then f' z b else f z b
theorem parT_0 (f f' : Tab) : parT 0 f f' = f := by
  funext z b
  unfold parT
  rw [if_neg]
  rintro (h | h) <;> omega
theorem parT_2 (f f' : Tab) : parT 2 f f' = f' := by
  funext z b
  unfold parT
  rw [if_pos]
  cases b
  · exact .inl ⟨rfl, by omega⟩
  · exact .inr ⟨rfl, by omega⟩
def AtJ (b : Bool) (j : Nat) : Prop := (b = false ∧ j = 0) ∨ (b = true ∧ j = 1)
theorem parT_at {f f' : Tab} {b : Bool} {j : Nat} (h : AtJ b j) (z : Str) : parT j f f' z b = f z b := by
  unfold parT
  rw [if_neg]
  rcases h with ⟨rfl, rfl⟩ | ⟨rfl, rfl⟩ <;> rintro (m | m) <;> simp at m
theorem parT_box {f f' : Tab} {z : Str} (h : ∀ b, f' z b = f z b) (j : Nat) (b : Bool) : parT j f f' z b = f z b := by
  unfold parT
  split
  · exact h b
  · rfl
theorem parT_step {f f' : Tab} {fo : Str} {b : Bool} {j : Nat} (hb : AtJ b j) (h : ∀ z, z ≠ fo → ∀ b, f' z b = f z b) (z : Str) (b' : Bool) : (if fo = z ∧ b = b' then f' fo b else parT j f f' z b') = parT (j + 1) f f' z b' := by
  by_cases c : fo = z ∧ b = b'
  · obtain ⟨rfl, rfl⟩ := c
    rw [if_pos ⟨rfl, rfl⟩]
    unfold parT
    rw [if_pos]
    rcases hb with ⟨rfl, rfl⟩ | ⟨rfl, rfl⟩
    · exact .inl ⟨rfl, by omega⟩
    · exact .inr ⟨rfl, by omega⟩
  · rw [if_neg c]
    by_cases q : z = fo
    · have hb' : b' = !b := by cases b <;> cases b' <;> simp_all
      subst hb'
      unfold parT
      rcases hb with ⟨rfl, rfl⟩ | ⟨rfl, rfl⟩
      · rw [if_neg (by simp), if_neg (by simp)]
      · rw [if_pos (by simp), if_pos (by simp)]
    · rw [parT_box (h z q), parT_box (h z q)]
theorem vals_at {j : Nat} {y : V} (h : [V.bl false, V.bl true][j]? = some y) : ∃ b : Bool, y = .bl b ∧ AtJ b j := by
  match j, h with
  | 0, h => cases h; exact ⟨false, rfl, .inl ⟨rfl, rfl⟩⟩
  | 1, h => cases h; exact ⟨true, rfl, .inr ⟨rfl, rfl⟩⟩
  | j + 2, h => simp at h
theorem gName_at' {i : Nat} {v : V} {σ : L2.St} {H : Hp} {Q : L2.St → Hp → Prop} : gName i v σ H Q = Q (σ.set i (some v)) H := rfl
def cheapL (rs : List Row) (r : Row) (f : Tab) (b : Bool) : List (Int × Bool) := [(f r.nm b, b), (f r.nm (!b) + stepR rs r, !b)]
theorem cheapL_sum (rs : List Row) (r : Row) (f g : Tab) (b : Bool) : (((cheapL rs r f b).filter fun e => decide (e.1 = leastI rs r f b)).map fun e => g r.nm e.2).sum = manyI rs r f g b := by
  unfold cheapL manyI
  by_cases c1 : f r.nm b = leastI rs r f b <;> by_cases c2 : f r.nm (!b) + stepR rs r = leastI rs r f b <;> simp [List.filter_cons, c1, c2]
theorem min_if (a b : Int) : (if b < a then b else a) = min a b := by
  split <;> omega
section
variable {P : Program} {w : World} {K : PySem.W.Frag} {mg : Str → Option Value} {base : Heap} {C CB : Addr}
abbrev nCh : List Str := ["tree", "ends", "barred", "steps", "value", "prices", "numbers", "box", "folder", "plain", "turned", "cheap", "place", "pair", "price", "own"]
theorem sc_choices : FnScope nCh ["tree", "ends"] (defScope s_choices) := ⟨rfl, rfl, rfl, by decide +kernel, rfl, by decide +kernel, by decide +kernel⟩
theorem ok_choices (D : DefAt K mg "choices" s_choices ["tree", "ends"]) (TC : TxC K mg) (T : TxT K mg C) (U : TxU K mg) (hS : mg "sum" = none) (hM : mg "min" = none)
    (De : DefAt K mg "endless" s_endless ["tree"]) (Ge : FnOk P w K mg base CX0 6 De.f De.fd ["tree"] (spEndless C))
    (Ds : DefAt K mg "step_prices" s_step_prices ["tree"]) (Gs : FnOk P w K mg base CX0 7 Ds.f Ds.fd ["tree"] (spSteps2 C))
    (mB : MethAt K C "below" "Tree.below" s_Tree_below ["self", "box"]) (GB : FnOk P w K mg base CX0 5 mB.f mB.fd ["self", "box"] (spListOf C belowL))
    (mF : MethAt K C "folder" "Tree.folder" s_Tree_folder ["self", "box"]) (GF : FnOk P w K mg base CX0 4 mF.f mF.fd ["self", "box"] (spGet C fun r => .str r.fo)) : FnOk P w K mg base CX0 8 D.f D.fd ["tree", "ends"] (spChoices P w C) := by
  obtain ⟨t1, gT⟩ := TC.top
  refine D.F.ok sc_choices (fun vs H Q E h => ?_) (fun cdv A outer s H vs Q E hr h => ?_)
  · obtain ⟨t, ed, rs, es, rfl, _⟩ := h
    rfl
  · obtain ⟨t, ed, rs, es, rfl, ht, hd, hok, hq⟩ := h
    have hu := hu_of hr
    have r4 : Room 4 _ := hr.mono (by decide)
    have r5 : Room 5 _ := hr.mono (by decide)
    have r6 : Room 6 _ := hr.mono (by decide)
    refine ⟨_, pss_cons (ps_set (i := 2) sc_choices.nd rfl (.inr rfl) (pe_call Ge r6 rfl De.g De.F.kp De.b .nil pass0 (pa_cons (pv 0) pa_nil)))
      (pss_cons (ps_set (i := 3) sc_choices.nd rfl (.inl rfl) (pe_call Gs hr rfl Ds.g Ds.F.kp Ds.b .nil pass0 (pa_cons (pv 0) pa_nil)))
      (pss_cons (ps_setDc2 (i := 5) (own := [("place", 12), ("value", 4)]) (vsb := [4]) (ga := gName 12) (qa := tYes) (wb := iTup K (tC (.ref U.A))) (gb := gName 4) (qb := tYes) (tk := tTup (tCons (tVar 12) (tCons (tVar 4) tNil))) (tv := tIf (tTest (tOp rEq (tDGet2 (tVar 1) (tVar 12) (tVar 4)) (tVar 4))) (tC (.int 0)) (tVar 2)) (storeP P w) hu rfl sc_choices.nd rfl rfl (swd_true rfl rfl rfl (by decide +kernel))
          (pi_list (pe_op op_cat (pe_lst (pa_cons (pe_glob (by rfl) gT (v := .str ("top" : Str)) ⟨_, rfl⟩) pa_nil)) (pe_meth (pv 0) T.cl mB.m GB r5 mB.b .nil pass0 (pa_cons (pe_glob (by rfl) gT (v := .str ("top" : Str)) ⟨_, rfl⟩) pa_nil)))) (blkOk_by (N := nCh) (sc := defScope s_choices) (by decide +kernel)) (by decide)
          (fun _ _ _ _ _ => pg_name (i := 12) sc_choices.nd rfl (Or.inl rfl)) (fun _ _ _ _ _ => pts_nil) (fun _ _ _ _ _ => pi_tup (pe_glob (by rfl) U.g (v := .ref U.A) rfl)) (fun _ _ _ _ _ => pg_name (i := 4) sc_choices.nd rfl (Or.inl rfl)) (fun _ _ _ _ _ => pts_nil)
          (fun _ _ _ _ _ => by exact pe_tup (pa_cons (pv 12) (pa_cons (pv 4) pa_nil))) (fun _ _ _ _ _ => by exact pe_ifExp (pt_cmpR op_eq (pe_dget2 hu (pv 1) (pv 12) (pv 4) (by constructor <;> intros <;> rfl)) (pv 4) (nomark _)) pe_int (pv 2)))
      (pss_cons (ps_lock (ps_set (i := 6) sc_choices.nd rfl (.inr rfl) (pe_dc1 (own := [("pair", 13)]) (ga := gName 13) (qa := tYes) (tk := tVar 13) (tv := tC (.int 1)) (storeP P w) hu rfl sc_choices.nd (pi_keysP (pv 5)) (blkOk_by (N := nCh) (sc := defScope s_choices) (by decide +kernel))
          (fun _ _ _ _ _ => pg_name (i := 13) sc_choices.nd rfl (Or.inl rfl)) (fun _ _ _ _ _ => pts_nil) (fun _ _ _ _ _ => pv 13) (fun _ _ _ _ _ => by exact pe_int))))
      (pss_cons (ps_for PassesOwn.never rfl (pi_list (pe_revL (pe_meth (pv 0) T.cl mB.m GB r5 mB.b .nil pass0 (pa_cons (pe_glob (by rfl) gT (v := .str ("top" : Str)) ⟨_, rfl⟩) pa_nil)))) (pg_name (i := 7) sc_choices.nd rfl (.inr rfl))
        (pss_cons (ps_set (i := 8) sc_choices.nd rfl (.inl rfl) (pe_meth (pv 0) T.cl mF.m GF r4 mF.b .nil pass0 (pa_cons (pv 7) pa_nil)))
        (pss_one (ps_for PassesOwn.never rfl (pi_tup (pe_glob (by rfl) U.g (v := .ref U.A) rfl)) (pg_name (i := 4) sc_choices.nd rfl (.inl rfl))
          (pss_cons (ps_asg (pe_tup (pa_cons (pe_getP hu (pv 5) (pe_tup (pa_cons (pv 7) (pa_cons (pv 4) pa_nil))) (fun _ _ => rfl)) (pa_cons (pe_op op_add (pe_getP hu (pv 5) (pe_tup (pa_cons (pv 7) (pa_cons (pe_not (pv 4)) pa_nil))) (fun _ _ => rfl)) (pe_dget hu (pv 3) (pv 7) (fun _ _ => rfl))) pa_nil)))
            (pg_tup rfl (pgs_cons (pg_name (i := 9) sc_choices.nd rfl (.inr rfl)) (pgs_cons (pg_name (i := 10) sc_choices.nd rfl (.inr rfl)) pgs_nil))))
          (pss_cons (ps_augS (pv 5) (pe_tup (pa_cons (pv 8) (pa_cons (pv 4) pa_nil))) (pget_P hu) (pe_callB (call_min2 rfl) (by rfl) hM (by decide +kernel) (pa_cons (pv 9) (pa_cons (pv 10) pa_nil))) ip_add (pset_P hu))
          (pss_cons (ps_set (i := 11) sc_choices.nd rfl (.inl rfl) (pe_lst (pa_cons (pe_tup (pa_cons (pv 9) (pa_cons (pv 4) pa_nil))) (pa_cons (pe_tup (pa_cons (pv 10) (pa_cons (pe_not (pv 4)) pa_nil))) pa_nil))))
          (pss_one (ps_augS (pv 6) (pe_tup (pa_cons (pv 8) (pa_cons (pv 4) pa_nil))) (pget_P hu) (pe_callB (cr_sum rfl) (by rfl) hS (by decide +kernel) (pa_cons (pe_lc (own := [("price", 14), ("own", 15)]) (g := gTup K 2 (gCons (gName 14) (gCons (gName 15) gNil))) (tt := tTest (tOp rEq (tVar 14) (tCB (fun xs H Q => ∃ i j, xs = [.int i, .int j] ∧ Q (.int (if j < i then j else i)) H) (tCons (tVar 9) (tCons (tVar 10) tNil))))) (te := tGetP P w (tVar 6) (tTup (tCons (tVar 7) (tCons (tVar 15) tNil)))) rfl sc_choices.nd (pi_list (pv 11)) (blkOk_by (N := nCh) (sc := defScope s_choices) (by decide +kernel))
              (fun _ _ _ _ _ => pg_tup rfl (pgs_cons (pg_name (i := 14) sc_choices.nd rfl (Or.inl rfl)) (pgs_cons (pg_name (i := 15) sc_choices.nd rfl (Or.inl rfl)) pgs_nil))) (fun _ _ _ _ _ => by exact pts_one (pt_cmpR op_eq (pv 14) (pe_callB (call_min2 rfl) (by rfl) hM (by decide +kernel) (pa_cons (pv 9) (pa_cons (pv 10) pa_nil))) (nomark _))) (fun _ _ _ _ _ => by exact pe_getP hu (pv 6) (pe_tup (pa_cons (pv 7) (pa_cons (pv 15) pa_nil))) (fun _ _ => rfl))) pa_nil)) ip_mulW (pset_P hu))))))))))
      (pss_one (ps_ret (pe_tup (pa_cons (pv 5) (pa_cons (pv 6) pa_nil))))))))), ?_⟩
    have hv := ht.val
    have l100 := ht.len
    obtain ⟨dx, q, f, k, p, qs, h1, _⟩ := id ht.ex
    have noB : (tf q f k p).lookup ("below" : Str) = none := tf_no _ _ _ _ (by decide +kernel) (by decide +kernel) (by decide +kernel) (by decide +kernel)
    have noF : (tf q f k p).lookup ("folder" : Str) = none := tf_no _ _ _ _ (by decide +kernel) (by decide +kernel) (by decide +kernel) (by decide +kernel)
    refine ⟨_, rfl, t, rs, rfl, ht, fun H1 s1 => ?_⟩
    refine ⟨_, rfl, t, rs, rfl, ht.same s1, fun sd H2 hsd s2 esd => ?_⟩
    have S2 := s1.trans s2
    refine ⟨(by show 1 ≤ sizeLine; decide), fun l1 hl1 => ?_⟩
    have s3 : Same H2 (upd H2 l1 (.lst [V.str ("top" : Str)])) := Same.new hl1
    have e3 : (upd H2 l1 (.lst [V.str ("top" : Str)])) l1 = some (.lst [V.str ("top" : Str)]) := upd_same
    generalize upd H2 l1 (.lst [V.str ("top" : Str)]) = H3 at s3 e3
    refine ⟨_, rfl, t, dx, _, rfl, (S2.trans s3) _ _ h1, noB, t, ("top" : Str), rs, rfl, ht.same (S2.trans s3), .inl rfl, fun bl H4 hbl s4 e4 => ?_⟩
    rw [below_top hv] at e4
    have ln : ((names rs).map V.str).length = rs.length := by unfold names; rw [List.length_map, List.length_map]
    refine ⟨l1, bl, _, _, rfl, rfl, s4 _ _ e3, e4, Nat.le_of_lt (small1000 (by rw [ln]; show 1 + rs.length ≤ 1000; omega)), fun pl hpl => ?_⟩
    have s5 : Same H4 (upd H4 pl (.lst ([V.str ("top" : Str)] ++ (names rs).map V.str))) := Same.new hpl
    have e5 : (upd H4 pl (.lst ([V.str ("top" : Str)] ++ (names rs).map V.str))) pl = some (.lst ((plc rs).map V.str)) := upd_same
    generalize upd H4 pl (.lst ([V.str ("top" : Str)] ++ (names rs).map V.str)) = H5 at s5 e5
    have S5 : Same H H5 := S2.trans (s3.trans (s4.trans s5))
    have esd5 := (s3.trans (s4.trans s5)) _ _ esd
    have pl101 : (plc rs).length ≤ 101 := by unfold plc names; rw [List.length_cons, List.length_map]; omega
    have pnd := plc_nodup hv
    clear hl1 s3 e3 s4 e4 hpl s5
    refine ⟨pl, rfl, ⟨_, SqL.of e5⟩, fun D hD => ?_⟩
    refine walk2 (walk_list (K := K) (a := pl) (xs := (plc rs).map V.str)) (fun i H' => Same H5 H' ∧ ∃ l, H' D = some (DicP P w none D l) ∧ KeysP H' l ∧ (keysP l).Nodup ∧ l.length = 2 * i ∧ ∀ z b, atP l z b = if z ∈ (plc rs).take i then some (.int (pen rs es z b)) else none)
      ⟨Same.new hD, [], upd_same, (fun y hy => by cases hy), List.nodup_nil, rfl, (fun z b => by show none = _; simp)⟩ (fun i H' _ m => SqL.of (m.1 _ _ e5)) ?_ ?_
    · rintro i x H6x H6 hi ⟨s6, l, hl, hk, hnd, hll, hat⟩ ⟨rfl, hx⟩
      rw [List.getElem?_map] at hx
      obtain ⟨z, hz, rfl⟩ := Option.map_eq_some_iff.mp hx
      have hzm := List.mem_of_getElem? hz
      rw [List.length_map] at hi
      have hzn : z ∉ (plc rs).take i := fun m => by
        obtain ⟨j, hj, ej⟩ := List.mem_iff_getElem.mp m
        rw [List.length_take] at hj
        rw [List.getElem_take] at ej
        have := (List.getElem?_inj (i := j) (j := i) (by omega) pnd).mp (by rw [hz, List.getElem?_eq_getElem (by omega), ej])
        omega
      refine ⟨rfl, tYes_if ⟨U.A, rfl, ⟨_, U.t _⟩, ?_⟩⟩
      refine walk2 (walk_tup (K := K) (a := U.A) (xs := [V.bl false, V.bl true])) (fun j H' => Same H5 H' ∧ ∃ l, H' D = some (DicP P w none D l) ∧ KeysP H' l ∧ (keysP l).Nodup ∧ l.length = 2 * i + j ∧ ∀ y b, atP l y b = if y ∈ (plc rs).take i ∨ (y = z ∧ ((b = false ∧ 1 ≤ j) ∨ (b = true ∧ 2 ≤ j))) then some (.int (pen rs es y b)) else none)
        ⟨s6, l, hl, hk, hnd, hll, fun y b => by rw [hat]; simp⟩ (fun j H' _ m => U.t _) ?_ ?_
      · rintro j y H7x H7 hj ⟨s7, l, hl, hk, hnd, hll, hat⟩ ⟨rfl, hy⟩
        obtain ⟨b, rfl, hbj⟩ : ∃ b : Bool, y = .bl b ∧ ((b = false ∧ j = 0) ∨ (b = true ∧ j = 1)) := by
          match j, hy with
          | 0, hy => cases hy; exact ⟨false, rfl, .inl ⟨rfl, rfl⟩⟩
          | 1, hy => cases hy; exact ⟨true, rfl, .inr ⟨rfl, rfl⟩⟩
          | j + 2, hy => simp at hy
        refine ⟨rfl, tYes_if ?_⟩
        refine ⟨_, rfl, _, rfl, (by show 2 ≤ sizeLine; decide), fun a ha => ?_⟩
        have s8 : Same H7 (upd H7 a (.tup [V.str z, V.bl b])) := Same.new ha
        have e8 : (upd H7 a (.tup [V.str z, V.bl b])) a = some (.tup [V.str z, V.bl b]) := upd_same
        generalize upd H7 a (.tup [V.str z, V.bl b]) = H8 at s8 e8
        have S8 := S5.trans (s7.trans s8)
        have dg : DGet H8 ed (.str z) ((endO es z).map V.bl) := .inl ⟨_, .inr z, .inl (S8 _ _ hd), rfl, by rw [kvE_val]⟩
        refine ⟨_, rfl, ed, rfl, .inl ⟨_, .inl (S8 _ _ hd)⟩, _, rfl, _, rfl, _, dg, ?_⟩
        rw [show ((endO es z).map V.bl).getD (V.bl b) = V.bl ((endO es z).getD b) from by cases endO es z <;> rfl]
        refine ⟨_, rfl, rfl, _, rfl, ?_⟩
        have fin : ∀ v : Int, v = pen rs es z b → (storeP P w).put D (.ref a) (.int v) H8 (fun H' => Same H5 H' ∧ ∃ l, H' D = some (DicP P w none D l) ∧ KeysP H' l ∧ (keysP l).Nodup ∧ l.length = 2 * i + (j + 1) ∧ ∀ y b, atP l y b = if y ∈ (plc rs).take i ∨ (y = z ∧ ((b = false ∧ 1 ≤ j + 1) ∨ (b = true ∧ 2 ≤ j + 1))) then some (.int (pen rs es y b)) else none) := by
          intro v ev
          have hn : atP l z b = none := by
            rw [hat, if_neg]
            rintro (m | ⟨_, m⟩)
            · exact hzn m
            · rcases hbj with ⟨rfl, rfl⟩ | ⟨rfl, rfl⟩ <;> simp at m
          refine ⟨none, l, a, z, b, rfl, s8 _ _ hl, hk.keep fun c xs e => s8 _ _ e, e8, hn, small1000 (by omega), fun c o ec => ?_, _, upd_same, (KeysP.snoc (hk.keep fun c xs e => s8 _ _ e) e8).keep fun c xs e => ?_, ndP_snoc hnd hn, by rw [List.length_append, hll]; rfl, fun y b' => ?_⟩
          · rw [upd_ne (ne_of_none ec hD)]; exact s8 _ _ (s7 _ _ ec)
          · rw [upd_ne fun x => by rw [x, s8 _ _ hl] at e; cases e]; exact e
          · rw [atP_snoc, hat]
            have hcase : (b = false ∧ 1 ≤ j + 1) ∨ (b = true ∧ 2 ≤ j + 1) := by
              rcases hbj with ⟨rfl, rfl⟩ | ⟨rfl, rfl⟩
              · exact .inl ⟨rfl, by omega⟩
              · exact .inr ⟨rfl, by omega⟩
            by_cases c1 : y ∈ (plc rs).take i
            · simp only [c1, true_or, if_true]; rfl
            · by_cases c2 : z = y ∧ b = b'
              · obtain ⟨rfl, rfl⟩ := c2
                have hno : ¬ (z ∈ (plc rs).take i ∨ (z = z ∧ ((b = false ∧ 1 ≤ j) ∨ (b = true ∧ 2 ≤ j)))) := by
                  rintro (m | ⟨_, m⟩)
                  · exact hzn m
                  · rcases hbj with ⟨rfl, rfl⟩ | ⟨rfl, rfl⟩ <;> simp at m
                rw [if_neg hno, if_pos (show (EnP.mk z b a (V.int v)).z = z ∧ (EnP.mk z b a (V.int v)).b = b from ⟨rfl, rfl⟩), if_pos (show z ∈ (plc rs).take i ∨ (z = z ∧ ((b = false ∧ 1 ≤ j + 1) ∨ (b = true ∧ 2 ≤ j + 1))) from .inr ⟨rfl, hcase⟩), ← ev]
                rfl
              · have hiff : (y ∈ (plc rs).take i ∨ (y = z ∧ ((b' = false ∧ 1 ≤ j) ∨ (b' = true ∧ 2 ≤ j)))) ↔ (y ∈ (plc rs).take i ∨ (y = z ∧ ((b' = false ∧ 1 ≤ j + 1) ∨ (b' = true ∧ 2 ≤ j + 1)))) := by
                  constructor
                  · rintro (m | ⟨m, n | n⟩)
                    · exact .inl m
                    · exact .inr ⟨m, .inl ⟨n.1, by omega⟩⟩
                    · exact .inr ⟨m, .inr ⟨n.1, by omega⟩⟩
                  · rintro (m | ⟨m, n⟩)
                    · exact .inl m
                    · refine .inr ⟨m, ?_⟩
                      rcases hbj with ⟨rfl, rfl⟩ | ⟨rfl, rfl⟩
                      · rcases n with n | n
                        · exact absurd ⟨m.symm, n.1.symm⟩ c2
                        · exact .inr ⟨n.1, by omega⟩
                      · rcases n with n | n
                        · exact .inl ⟨n.1, by omega⟩
                        · exact absurd ⟨m.symm, n.1.symm⟩ c2
                rw [if_neg c2]
                simp only [hiff]
                split <;> rfl
        cases c : endO es z with
        | none => exact iteT' (by simp) (fin 0 (by unfold pen; rw [c, if_neg (by simp)]))
        | some b' =>
          by_cases e : b' = b
          · exact iteT' (by simp [e]) (fin 0 (by unfold pen; rw [c, e, if_neg (by cases b <;> simp)]))
          · exact iteF' (by simp [e]) ⟨_, rfl, fin _ (by unfold pen; rw [c, if_pos (by cases b <;> cases b' <;> simp_all)])⟩
      · rintro H7 ⟨s7, l, hl, hk, hnd, hll, hat⟩
        refine ⟨s7, l, hl, hk, hnd, by rw [hll]; rfl, fun y b => ?_⟩
        rw [hat, take_more hz]
        have hiff : (y ∈ (plc rs).take i ∨ (y = z ∧ ((b = false ∧ 1 ≤ [V.bl false, V.bl true].length) ∨ (b = true ∧ 2 ≤ [V.bl false, V.bl true].length)))) ↔ y ∈ (plc rs).take i ++ [z] := by
          rw [List.mem_append, List.mem_singleton]
          constructor
          · rintro (m | m)
            · exact .inl m
            · exact .inr m.1
          · rintro (m | m)
            · exact .inl m
            · refine .inr ⟨m, ?_⟩
              cases b
              · exact .inl ⟨rfl, by decide⟩
              · exact .inr ⟨rfl, by decide⟩
        simp only [hiff]
    rintro H6 ⟨s6, l, hl, hk, hnd, hll, hat⟩
    rw [List.length_map] at hll hat
    simp only [List.take_length] at hat
    have S6 := S5.trans s6
    -- the numbers
    refine ⟨D, _, hl, trivial, fun od => ?_⟩
    obtain ⟨Hl, El⟩ : ∃ Hx, Hx = upd H6 D (.frz od (DicP P w none D l)) := ⟨_, rfl⟩
    have lk : Hl D = some (.frz od (DicP P w none D l)) := by rw [El]; exact upd_same
    have keep : ∀ b o, b ≠ D → H6 b = some o → Hl b = some o := fun b o n e => by rw [El, upd_ne n]; exact e
    have keepN : ∀ b, Hl b = none → H6 b = none := fun b e => by
      by_cases q : b = D
      · rw [q, lk] at e; cases e
      · rw [El, upd_ne q] at e; exact e
    have hkl : KeysP Hl l := hk.keep fun b xs e => keep _ _ (fun x => by rw [x, hl] at e; cases e) e
    rw [← El]
    clear El
    refine ⟨_, rfl, D, od, none, l, rfl, lk, fun F hF => ?_⟩
    have nF : F ≠ D := (ne_of_none lk hF).symm
    refine dc1_walk (S := storeP P w) (walkP (c := none) (d := D) (od := od) (l := l)) (fun i H' => Same Hl H' ∧ H' F = some (DicP P w none F (oneP (.int 1) (l.take i)))) ⟨Same.new hF, upd_same⟩ (fun i H' _ m => m.1 _ _ lk) ?_ ?_
    · rintro i x H7x H7 hi ⟨s7, hf7⟩ ⟨rfl, y, hy, rfl⟩
      have hk7 : KeysP H7 l := hkl.keep fun b xs e => s7 _ _ e
      have hym := List.mem_of_getElem? hy
      refine ⟨rfl, tYes_if ⟨_, rfl, none, _, y.a, y.z, y.b, rfl, hf7, ?_, hk7 y hym, atP_next hnd hy, small1000 (by unfold oneP; rw [List.length_map, List.length_take]; omega), fun b o eb => ?_, ?_⟩⟩
      · exact KeysP.one (fun z hz => hk7 z (List.mem_of_mem_take hz)) _
      · rw [upd_ne (ne_of_none eb hF)]; exact s7 _ _ eb
      · rw [upd_same, take_more hy]
        unfold oneP
        rw [List.map_append]; rfl
    rintro H7 ⟨s7, hf7⟩
    rw [List.take_length] at hf7
    refine ⟨s7 _ _ lk, ?_⟩
    have s67 : ∀ b o, H6 b = some o → (upd H7 D (DicP P w none D l)) b = some o := fun b o e => by
      by_cases q : b = D
      · rw [q, upd_same, ← hl, ← e, q]
      · rw [upd_ne q]; exact s7 _ _ (keep _ _ q e)
    have ta : PTI P w (upd H7 D (DicP P w none D l)) D rs (tabT rs es []) := ⟨l, upd_same, hk.keep fun b xs e => s67 _ _ e, fun z hz b => by rw [hat, if_pos hz]; rfl⟩
    have tb : PTI P w (upd H7 D (DicP P w none D l)) F rs (numT rs es []) := ⟨_, by rw [upd_ne nF]; exact hf7, (hk.one _).keep fun b xs e => s67 _ _ e, fun z hz b => by rw [atP_one, hat, if_pos hz]; rfl⟩
    have hFH : H6 F = none := keepN _ hF
    have hDH : H D = none := S5.free hD
    have hFH0 : H F = none := S6.free hFH
    have S8 : Same H (upd H7 D (DicP P w none D l)) := fun b o e => s67 _ _ (S6 _ _ e)
    have esd8 := s67 _ _ (s6 _ _ esd5)
    have nsD : sd ≠ D := ne_of_none esd5 hD
    have nsF : sd ≠ F := ne_of_none (s6 _ _ esd5) hFH
    clear hk hkl hat hnd hll keep keepN lk s7 hf7 s67 hl s6
    generalize upd H7 D (DicP P w none D l) = H8 at ta tb S8 esd8
    refine ⟨_, rfl, t, dx, _, rfl, S8 _ _ h1, noB, t, ("top" : Str), rs, rfl, ht.same S8, .inl rfl, fun bl2 H9 hbl2 s9 e9 => ?_⟩
    rw [below_top hv] at e9
    refine ⟨bl2, _, rfl, SqL.of e9, fun rl hrl => ?_⟩
    have s10 : Same H9 (upd H9 rl (.lst ((names rs).map V.str).reverse)) := Same.new hrl
    have e10 : (upd H9 rl (.lst ((names rs).map V.str).reverse)) rl = some (.lst ((names rs).map V.str).reverse) := upd_same
    generalize upd H9 rl (.lst ((names rs).map V.str).reverse) = H10 at s10 e10
    have s8' := s9.trans s10
    have S10 := S8.trans s8'
    have ta10 := ta.same s8'
    have tb10 := tb.same s8'
    have esd10 := s8' _ _ esd8
    have nrD : rl ≠ D := by obtain ⟨l', hl'⟩ := ta10.has; exact fun x => by rw [x, hl'] at e10; cases e10
    have nrF : rl ≠ F := by obtain ⟨l', hl'⟩ := tb10.has; exact fun x => by rw [x, hl'] at e10; cases e10
    clear ta tb s9 s10 hbl2 e9 hrl s8' esd8
    refine ⟨rl, rfl, ⟨_, SqL.of e10⟩, ?_⟩
    refine for_list (K := K) (a := rl) (xs := ((names rs).map V.str).reverse) (fun i σ H' => ∃ v4 v7 v8 v9 v10 v11 : Option V, σ = [some (.ref t), some (.ref ed), some (.int (endlessI rs)), some (.ref sd), v4, some (.ref D), some (.ref F), v7, v8, v9, v10, v11, none, none, none, none] ∧ (∀ b o, b ≠ D → b ≠ F → H10 b = some o → H' b = some o) ∧
        PTI P w H' D rs (tabT rs es (rs.drop (rs.length - i))) ∧ PTI P w H' F rs (numT rs es (rs.drop (rs.length - i)))) ⟨none, none, none, none, none, none, rfl, fun b o _ _ e => e, by rw [Nat.sub_zero, List.drop_length]; exact ta10, by rw [Nat.sub_zero, List.drop_length]; exact tb10⟩ (fun i σ H' _ ⟨_, _, _, _, _, _, _, m, _⟩ => SqL.of (m _ _ nrD nrF e10)) ?_ ?_
    · rintro i x σ H11 hx ⟨v4, v7, v8, v9, v10, v11, rfl, k11, ta11, tb11⟩
      have hi : i < rs.length := by
        have := (List.getElem?_eq_some_iff.mp hx).1
        rw [List.length_reverse, ln] at this; exact this
      rw [List.getElem?_reverse (by rw [ln]; exact hi), ln] at hx
      obtain ⟨r, rfl, hr'⟩ := nms_at hx
      generalize em : rs.length - 1 - i = m at hr'
      have ed1 : rs.length - i = m + 1 := by omega
      have ed2 : rs.length - (i + 1) = m := by omega
      have hm : m < rs.length := by omega
      rw [ed1] at ta11 tb11
      rw [ed2]
      have edrop : rs.drop m = r :: rs.drop (m + 1) := by
        rw [List.drop_eq_getElem_cons hm]
        rw [List.getElem?_eq_getElem hm] at hr'
        rw [Option.some.inj hr']
      have ers : rs = rs.take m ++ r :: rs.drop (m + 1) := by rw [← edrop, List.take_append_drop]
      rw [edrop]
      generalize rs.drop (m + 1) = suf at ta11 tb11 ers edrop
      have hvs : Valid (rs.take m ++ r :: suf) := by rw [← ers]; exact hv
      have hrm : r ∈ rs := by rw [ers]; simp
      have hf := fits_at hvs
      have nbf : r.nm ≠ r.fo := fun x => nm_pre hf (by rw [x]; exact fo_pre hf)
      have bx := nm_plc hrm
      have fx := fo_plc hv hrm
      have S11 : Same H H11 := fun b o e => k11 _ _ (ne_of_none e hDH) (ne_of_none e hFH0) (S10 _ _ e)
      refine ⟨_, rfl, t, dx, _, rfl, S11 _ _ h1, noF, _, rfl, t, r.nm, rs, r, rfl, ht.same S11, rowOf_at hv hr', ?_⟩
      refine ⟨U.A, rfl, ⟨_, U.t _⟩, ?_⟩
      refine for_tup (K := K) (a := U.A) (xs := [V.bl false, V.bl true]) (fun j σ H' => ∃ v4 v9 v10 v11 : Option V, σ = [some (.ref t), some (.ref ed), some (.int (endlessI rs)), some (.ref sd), v4, some (.ref D), some (.ref F), some (.str r.nm), some (.str r.fo), v9, v10, v11, none, none, none, none] ∧ (∀ b o, b ≠ D → b ≠ F → H10 b = some o → H' b = some o) ∧
        PTI P w H' D rs (parT j (tabT rs es suf) (tabT rs es (r :: suf))) ∧ PTI P w H' F rs (parT j (numT rs es suf) (numT rs es (r :: suf)))) ⟨_, _, _, _, rfl, k11, by rw [parT_0]; exact ta11, by rw [parT_0]; exact tb11⟩ (fun j σ H' _ _ => U.t _) ?_ ?_
      · rintro j y σ H12 hy ⟨v4', v9', v10', v11', rfl, k12, ta12, tb12⟩
        obtain ⟨b, rfl, hbj⟩ := vals_at hy
        have nDF : D ≠ F := nF.symm
        -- the two prices
        refine ⟨_, rfl, _, rfl, _, rfl, (by show 2 ≤ sizeLine; decide), fun a1 ha1 => ?_⟩
        have s1' : Same H12 (upd H12 a1 (.tup [V.str r.nm, V.bl b])) := Same.new ha1
        have e1' : (upd H12 a1 (.tup [V.str r.nm, V.bl b])) a1 = some (.tup [V.str r.nm, V.bl b]) := upd_same
        generalize upd H12 a1 (.tup [V.str r.nm, V.bl b]) = H13 at s1' e1'
        refine (ta12.same s1').get bx e1' ?_
        refine ⟨_, rfl, _, rfl, _, rfl, _, rfl, (by show 2 ≤ sizeLine; decide), fun a2 ha2 => ?_⟩
        have s2' : Same H13 (upd H13 a2 (.tup [V.str r.nm, V.bl (!b)])) := Same.new ha2
        have e2' : (upd H13 a2 (.tup [V.str r.nm, V.bl (!b)])) a2 = some (.tup [V.str r.nm, V.bl (!b)]) := upd_same
        generalize upd H13 a2 (.tup [V.str r.nm, V.bl (!b)]) = H14 at s2' e2'
        have s12 := s1'.trans s2'
        refine (ta12.same s12).get bx e2' ?_
        have dgs : DGet H14 sd (.str r.nm) (some (.int (stepR rs r))) := .inl ⟨_, .inr r.nm, .inl (s12 _ _ (k12 _ _ nsD nsF esd10)), rfl, (kvF_val (g := fun r => .int (stepR rs r)) hv hrm).symm⟩
        refine ⟨_, rfl, _, rfl, sd, _, rfl, dgs, _, _, rfl, rfl, (by show 2 ≤ sizeLine; decide), fun a3 ha3 => ?_⟩
        have tabs : ∀ z, z ≠ r.fo → ∀ b, tabT rs es (r :: suf) z b = tabT rs es suf z b := fun z hz b => if_neg hz
        have nums : ∀ z, z ≠ r.fo → ∀ b, numT rs es (r :: suf) z b = numT rs es suf z b := fun z hz b => if_neg hz
        rw [parT_box (tabs _ nbf), parT_box (tabs _ nbf)]
        refine ⟨a3, _, rfl, sqT upd_same, rfl, _, _, rfl, _, _, rfl, rfl, ?_⟩
        have s3' := s12.trans (Same.new (o := .tup [V.int (tabT rs es suf r.nm b), V.int (tabT rs es suf r.nm (!b) + stepR rs r)]) ha3)
        generalize upd H14 a3 (.tup [V.int (tabT rs es suf r.nm b), V.int (tabT rs es suf r.nm (!b) + stepR rs r)]) = H15 at s3'
        clear s1' e1' s2' e2' s12 dgs ha1 ha2 ha3
        dsimp only [gName_at', List.set_cons_zero, List.set_cons_succ]
        -- the price of the folder
        refine ⟨_, rfl, _, rfl, _, rfl, (by show 2 ≤ sizeLine; decide), fun a4 ha4 => ?_⟩
        have s4' := s3'.trans (Same.new (o := .tup [V.str r.fo, V.bl b]) ha4)
        have e4' : (upd H15 a4 (.tup [V.str r.fo, V.bl b])) a4 = some (.tup [V.str r.fo, V.bl b]) := upd_same
        generalize upd H15 a4 (.tup [V.str r.fo, V.bl b]) = H16 at s4' e4'
        refine (ta12.same s4').get fx e4' ?_
        refine ⟨_, rfl, _, rfl, _, _, rfl, _, _, rfl, rfl, ?_⟩
        rw [min_if, parT_at hbj]
        refine (ta12.same s4').set fx e4' fun H17 s17 ta17 => ?_
        obtain ⟨lD, hlD⟩ := (ta12.same s4').has
        have tb17 : PTI P w H17 F rs (parT j (numT rs es suf) (numT rs es (r :: suf))) := (tb12.same s4').other s17 hlD (fun xs e => nomatch e) nDF.symm
        have ta18 : PTI P w H17 D rs (parT (j + 1) (tabT rs es suf) (tabT rs es (r :: suf))) := by
          refine ta17.imp fun z hz b' => ?_
          rw [← parT_step (f := tabT rs es suf) (f' := tabT rs es (r :: suf)) hbj tabs z b']
          have e : tabT rs es (r :: suf) r.fo b = tabT rs es suf r.fo b + min (tabT rs es suf r.nm b) (tabT rs es suf r.nm (!b) + stepR rs r) := if_pos rfl
          rw [e]
          split <;> rfl
        have k17 : ∀ b o, b ≠ D → b ≠ F → H10 b = some o → H17 b = some o := fun c o n1 n2 e => s17 _ _ n1 (s4' _ _ (k12 _ _ n1 n2 e))
        clear ta17 s17 hlD e4' s4' s3' ta12 tb12 ha4
        -- what is cheap
        refine ⟨_, rfl, _, rfl, (by show 2 ≤ sizeLine; decide), fun a5 ha5 => ?_⟩
        have s5' : Same H17 (upd H17 a5 (.tup [V.int (tabT rs es suf r.nm b), V.bl b])) := Same.new ha5
        have e5' : (upd H17 a5 (.tup [V.int (tabT rs es suf r.nm b), V.bl b])) a5 = some (.tup [V.int (tabT rs es suf r.nm b), V.bl b]) := upd_same
        generalize upd H17 a5 (.tup [V.int (tabT rs es suf r.nm b), V.bl b]) = H18 at s5' e5'
        refine ⟨_, rfl, _, rfl, _, rfl, (by show 2 ≤ sizeLine; decide), fun a6 ha6 => ⟨(by show 2 ≤ sizeLine; decide), fun cl hcl => ?_⟩⟩
        have s6' : Same H18 (upd H18 a6 (.tup [V.int (tabT rs es suf r.nm (!b) + stepR rs r), V.bl (!b)])) := Same.new ha6
        have e6' : (upd H18 a6 (.tup [V.int (tabT rs es suf r.nm (!b) + stepR rs r), V.bl (!b)])) a6 = some (.tup [V.int (tabT rs es suf r.nm (!b) + stepR rs r), V.bl (!b)]) := upd_same
        generalize upd H18 a6 (.tup [V.int (tabT rs es suf r.nm (!b) + stepR rs r), V.bl (!b)]) = H19 at s6' e6' hcl
        have s7' : Same H19 (upd H19 cl (.lst [V.ref a5, V.ref a6])) := Same.new hcl
        have e7' : (upd H19 cl (.lst [V.ref a5, V.ref a6])) cl = some (.lst [V.ref a5, V.ref a6]) := upd_same
        generalize upd H19 cl (.lst [V.ref a5, V.ref a6]) = H20 at s7' e7'
        have e56 := s7' _ _ (s6' _ _ e5')
        have e66 := s7' _ _ e6'
        have s57 := s5'.trans (s6'.trans s7')
        clear s5' e5' s6' e6' s7' ha5 ha6 hcl
        dsimp only [gName_at', List.set_cons_zero, List.set_cons_succ]
        -- the number of the folder
        refine ⟨_, rfl, _, rfl, _, rfl, (by show 2 ≤ sizeLine; decide), fun a7 ha7 => ?_⟩
        have s8' : Same H20 (upd H20 a7 (.tup [V.str r.fo, V.bl b])) := Same.new ha7
        have e8' : (upd H20 a7 (.tup [V.str r.fo, V.bl b])) a7 = some (.tup [V.str r.fo, V.bl b]) := upd_same
        generalize upd H20 a7 (.tup [V.str r.fo, V.bl b]) = H21 at s8' e8'
        have s58 := s57.trans s8'
        refine (tb17.same s58).get fx e8' ?_
        refine ⟨_, rfl, cl, rfl, ⟨_, SqL.of (s8' _ _ e7')⟩, fun G hG => ?_⟩
        have tb21 := tb17.same s58
        have nb : ∀ b', parT j (numT rs es suf) (numT rs es (r :: suf)) r.nm b' = numT rs es suf r.nm b' := fun b' => parT_box (nums _ nbf) j b'
        refine lc_list (K := K) (a := cl) (xs := [V.ref a5, V.ref a6]) (fun i H' => Same H21 H' ∧ H' G = some (.lst (((((cheapL rs r (tabT rs es suf) b).take i).filter fun e => decide (e.1 = leastI rs r (tabT rs es suf) b)).map fun e => numT rs es suf r.nm e.2).map V.int))) ⟨Same.new hG, upd_same⟩ (fun i H' _ m => SqL.of (m.1 _ _ (s8' _ _ e7'))) ?_ ?_
        · rintro i x H22 hx ⟨s22, hG22⟩
          have e522 := s22 _ _ (s8' _ _ e56)
          have e622 := s22 _ _ (s8' _ _ e66)
          have one : ∀ (e : Int × Bool) (a : Addr), H22 a = some (.tup [V.int e.1, V.bl e.2]) → (cheapL rs r (tabT rs es suf) b)[i]? = some e → gTup K 2 (gCons (gName 14) (gCons (gName 15) gNil)) (V.ref a) (wipe [some (V.ref t), some (V.ref ed), some (V.int (endlessI rs)), some (V.ref sd), some (V.bl b), some (V.ref D), some (V.ref F), some (V.str r.nm), some (V.str r.fo), some (V.int (tabT rs es suf r.nm b)), some (V.int (tabT rs es suf r.nm (!b) + stepR rs r)), some (V.ref cl), none, none, none, none] (List.map (fun x => x.2) [("price", 14), ("own", 15)])) H22 fun σ2 H2 =>
              wipe σ2 (List.map (fun x => x.2) [(("price" : Str), 14), (("own" : Str), 15)]) = wipe [some (V.ref t), some (V.ref ed), some (V.int (endlessI rs)), some (V.ref sd), some (V.bl b), some (V.ref D), some (V.ref F), some (V.str r.nm), some (V.str r.fo), some (V.int (tabT rs es suf r.nm b)), some (V.int (tabT rs es suf r.nm (!b) + stepR rs r)), some (V.ref cl), none, none, none, none] (List.map (fun x => x.2) [(("price" : Str), 14), (("own" : Str), 15)]) ∧
              tTest (tOp rEq (tVar 14) (tCB (fun xs H Q => ∃ i j, xs = [.int i, .int j] ∧ Q (.int (if j < i then j else i)) H) (tCons (tVar 9) (tCons (tVar 10) tNil)))) σ2 H2 fun bb H3 => if bb = true then tGetP P w (tVar 6) (tTup (tCons (tVar 7) (tCons (tVar 15) tNil))) σ2 H3 fun y H4 => ∃ acc, H4 G = some (.lst acc) ∧ acc.length < sizeLine ∧ (Same H21 (upd H4 G (.lst (acc ++ [y]))) ∧ (upd H4 G (.lst (acc ++ [y]))) G = some (.lst (((((cheapL rs r (tabT rs es suf) b).take (i + 1)).filter fun e => decide (e.1 = leastI rs r (tabT rs es suf) b)).map fun e => numT rs es suf r.nm e.2).map V.int)))
                else (Same H21 H3 ∧ H3 G = some (.lst (((((cheapL rs r (tabT rs es suf) b).take (i + 1)).filter fun e => decide (e.1 = leastI rs r (tabT rs es suf) b)).map fun e => numT rs es suf r.nm e.2).map V.int))) := by
            intro e a ea he
            have hle : ((((cheapL rs r (tabT rs es suf) b).take i).filter fun e => decide (e.1 = leastI rs r (tabT rs es suf) b)).map fun e => numT rs es suf r.nm e.2).length ≤ 2 := by
              rw [List.length_map]
              refine Nat.le_trans (List.length_filter_le _ _) ?_
              rw [List.length_take]
              exact Nat.le_trans (Nat.min_le_right _ _) (Nat.le_refl 2)
            refine ⟨a, _, rfl, sqT ea, rfl, _, _, rfl, _, _, rfl, rfl, rfl, ?_⟩
            refine ⟨_, rfl, _, rfl, _, rfl, _, _, rfl, ?_⟩
            rw [min_if]
            refine ⟨rfl, _, rfl, ?_⟩
            rw [take_more he, List.filter_append]
            by_cases q : e.1 = leastI rs r (tabT rs es suf) b
            · refine iteT' (decide_eq_true (show V.int e.1 = V.int _ by rw [q]; rfl)) ⟨_, rfl, _, rfl, _, rfl, (by show 2 ≤ sizeLine; decide), fun a8 ha8 => ?_⟩
              have s9' : Same H22 (upd H22 a8 (.tup [V.str r.nm, V.bl e.2])) := Same.new ha8
              refine (tb21.same (s22.trans s9')).get bx upd_same ?_
              rw [nb]
              refine ⟨_, s9' _ _ hG22, small1000 (by rw [List.length_map]; omega), fun c o ec => ?_, ?_⟩
              · rw [upd_ne (ne_of_none ec hG)]; exact s9' _ _ (s22 _ _ ec)
              · rw [upd_same]
                simp [List.filter_cons, q]
            · refine iteF' (decide_eq_false fun x => q (V.int.inj x)) ⟨s22, ?_⟩
              rw [hG22]
              simp [List.filter_cons, q]
          have h2 : (i = 0 ∧ x = V.ref a5) ∨ (i = 1 ∧ x = V.ref a6) := by
            match i, hx with
            | 0, hx => cases hx; exact .inl ⟨rfl, rfl⟩
            | 1, hx => cases hx; exact .inr ⟨rfl, rfl⟩
            | i + 2, hx => simp at hx
          rcases h2 with ⟨rfl, rfl⟩ | ⟨rfl, rfl⟩
          · exact one (tabT rs es suf r.nm b, b) a5 e522 rfl
          · exact one (tabT rs es suf r.nm (!b) + stepR rs r, !b) a6 e622 rfl
        rintro H22 ⟨s22, hG22⟩
        rw [show [V.ref a5, V.ref a6].length = (cheapL rs r (tabT rs es suf) b).length from rfl, List.take_length] at hG22
        refine ⟨G, _, rfl, SqL.of hG22, ?_⟩
        rw [cheapL_sum, parT_at hbj]
        refine ⟨_, _, rfl, rfl, ?_, ?_⟩
        · have hmm : m ≤ rs.length := Nat.le_of_lt hm
          have lsuf : suf.length ≤ 100 := by
            have := congrArg List.length ers
            rw [List.length_append, List.length_cons] at this
            omega
          have w1 := num_log (rs := rs) es (pre := rs.take m ++ [r]) (suf := suf) (by rw [List.append_assoc]; exact hvs) (z := r.fo) (by rw [plc_snoc]; exact List.mem_append_left _ (fo_pre hf)) b
          have w2 := many_log (rs := rs) es hvs b
          show (numT rs es suf r.fo b).natAbs.log2 + (manyI rs r (tabT rs es suf) (numT rs es suf) b).natAbs.log2 < 1000000
          omega
        refine (tb21.same s22).set fx (s22 _ _ e8') fun H23 s23 tb23 => ?_
        obtain ⟨lF, hlF⟩ := (tb21.same s22).has
        have s59 := s58.trans s22
        refine ⟨_, _, _, _, rfl, fun c o n1 n2 e => s23 _ _ n2 (s59 _ _ (k17 _ _ n1 n2 e)), (ta18.same s59).other s23 hlF (fun xs e => nomatch e) nDF, tb23.imp fun z hz b' => ?_⟩
        rw [← parT_step (f := numT rs es suf) (f' := numT rs es (r :: suf)) hbj nums z b']
        have e : numT rs es (r :: suf) r.fo b = numT rs es suf r.fo b * manyI rs r (tabT rs es suf) (numT rs es suf) b := if_pos rfl
        rw [e]
        split <;> rfl
      · rintro σ H12 ⟨v4', v9', v10', v11', rfl, k12, ta12, tb12⟩
        rw [show [V.bl false, V.bl true].length = 2 from rfl, parT_2] at ta12 tb12
        exact ⟨_, _, _, _, _, _, rfl, k12, ta12, tb12⟩
    rintro σ H11 ⟨v4, v7, v8, v9, v10, v11, rfl, k11, ta11, tb11⟩
    rw [List.length_reverse, ln, Nat.sub_self, List.drop_zero] at ta11 tb11
    refine ⟨_, rfl, _, rfl, (by show 2 ≤ sizeLine; decide), fun tq htq => ?_⟩
    have s12 := Same.new (o := .tup [V.ref D, V.ref F]) htq
    exact hq tq D F _ ((show Same H H11 from fun b o e => k11 _ _ (ne_of_none e hDH) (ne_of_none e hFH0) (S10 _ _ e)).trans s12) upd_same (ta11.same s12) (tb11.same s12)
end
end Ts

set_option maxRecDepth 100000
set_option maxHeartbeats 8000000
namespace Ts
open PySem L2
theorem if_var {c : Bool} {i j : Nat} {σ : L2.St} {H : Hp} {Q : VK} {v1 v2 v : V} (h1 : σ[i]? = some (some v1)) (h2 : σ[j]? = some (some v2)) (e : v = if c = true then v1 else v2) (h : Q v H) : if c = true then tVar i σ H Q else tVar j σ H Q := by
  cases c
  · exact ⟨v2, h2, by rw [e] at h; exact h⟩
  · exact ⟨v1, h1, by rw [e] at h; exact h⟩
theorem if_zero {c : Bool} {i j : Nat} {σ : L2.St} {H : Hp} {Q : VK} {d : Addr} {x : V} {p v : Int} (h1 : σ[i]? = some (some (.ref d))) (h2 : σ[j]? = some (some x)) (g : DGet H d x (some (.int p))) (e : v = if c = true then 0 else p) (h : Q (.int v) H) : if c = true then tC (.int 0) σ H Q else tDGet (tVar i) (tVar j) σ H Q := by
  cases c
  · exact ⟨_, h1, _, h2, d, _, rfl, g, by rw [e] at h; exact h⟩
  · show Q (.int 0) H
    rw [e] at h; exact h
theorem dec_bl (a b : Bool) : decide (V.bl a = V.bl b) = decide (a = b) := by cases a <;> cases b <;> rfl
def spFav (P : Program) (w : World) (C CM : Addr) : Sp := fun vs H Q _ => ∃ (t pa : Addr) (rs : List Row) (f : Tab) (fav : Bool), vs = [.ref t, .ref pa, .bl fav] ∧ TreeAt C H t rs ∧ PTI P w H pa rs f ∧ NoLk rs (favV rs f fav) ∧ ∀ m H', Same H H' → MV C CM H' m t rs (favV rs f fav) → Q (.ref m) H'
section
variable {P : Program} {w : World} {K : PySem.W.Frag} {mg : Str → Option Value} {base : Heap} {C CM CB : Addr}
abbrev nFv : List Str := ["tree", "prices", "favour", "steps", "other", "values", "box", "folder", "with_favour", "with_other"]
theorem sc_fav : FnScope nFv ["tree", "prices", "favour"] (defScope s_favoured) := ⟨rfl, rfl, rfl, by decide +kernel, rfl, by decide +kernel, by decide +kernel⟩
theorem ok_fav (D : DefAt K mg "favoured" s_favoured ["tree", "prices", "favour"]) (TC : TxC K mg) (T : TxT K mg C)
    (Ds : DefAt K mg "step_prices" s_step_prices ["tree"]) (Gs : FnOk P w K mg base CX0 7 Ds.f Ds.fd ["tree"] (spSteps2 C))
    (Dw : DefAt K mg "with_values" s_with_values ["tree", "values"]) (Gw : FnOk P w K mg base CX0 9 Dw.f Dw.fd ["tree", "values"] (spWith C CM))
    (mB : MethAt K C "below" "Tree.below" s_Tree_below ["self", "box"]) (GB : FnOk P w K mg base CX0 5 mB.f mB.fd ["self", "box"] (spListOf C belowL))
    (mF : MethAt K C "folder" "Tree.folder" s_Tree_folder ["self", "box"]) (GF : FnOk P w K mg base CX0 4 mF.f mF.fd ["self", "box"] (spGet C fun r => .str r.fo)) : FnOk P w K mg base CX0 10 D.f D.fd ["tree", "prices", "favour"] (spFav P w C CM) := by
  obtain ⟨t1, gT⟩ := TC.top
  refine D.F.ok sc_fav (fun vs H Q E h => ?_) (fun cdv A outer s H vs Q E hr h => ?_)
  · obtain ⟨t, pa, rs, f, fav, rfl, _⟩ := h
    rfl
  · obtain ⟨t, pa, rs, f, fav, rfl, ht, htab, hnl, hq⟩ := h
    have hu := hu_of hr
    have r4 : Room 4 _ := hr.mono (by decide)
    have r5 : Room 5 _ := hr.mono (by decide)
    have r7 : Room 7 _ := hr.mono (by decide)
    refine ⟨_, pss_cons (ps_set (i := 3) sc_fav.nd rfl (.inl rfl) (pe_call Gs r7 rfl Ds.g Ds.F.kp Ds.b .nil pass0 (pa_cons (pv 0) pa_nil)))
      (pss_cons (ps_set (i := 4) sc_fav.nd rfl (.inl rfl) (pe_not (pv 2)))
      (pss_cons (ps_set (i := 5) sc_fav.nd rfl (.inl rfl) (pe_disp (pps_cons (pe_glob (by rfl) gT (v := .str ("top" : Str)) ⟨_, rfl⟩) (pe_ifExp (pt_cmpR op_le (pe_getP hu (pv 1) (pe_tup (pa_cons (pe_glob (by rfl) gT (v := .str ("top" : Str)) ⟨_, rfl⟩) (pa_cons (pv 2) pa_nil))) (fun _ _ => rfl)) (pe_getP hu (pv 1) (pe_tup (pa_cons (pe_glob (by rfl) gT (v := .str ("top" : Str)) ⟨_, rfl⟩) (pa_cons (pv 4) pa_nil))) (fun _ _ => rfl)) (nomark _)) (pv 2) (pv 4)) pps_nil) (by rfl) (by rfl) (fun z => by cases z) (by decide)))
      (pss_cons (ps_for PassesOwn.never rfl (pi_list (pe_meth (pv 0) T.cl mB.m GB r5 mB.b .nil pass0 (pa_cons (pe_glob (by rfl) gT (v := .str ("top" : Str)) ⟨_, rfl⟩) pa_nil))) (pg_name (i := 6) sc_fav.nd rfl (.inl rfl))
        (pss_cons (ps_set (i := 7) sc_fav.nd rfl (.inl rfl) (pe_dget hu (pv 5) (pe_meth (pv 0) T.cl mF.m GF r4 mF.b .nil pass0 (pa_cons (pv 6) pa_nil)) (fun _ _ => rfl)))
        (pss_cons (ps_set (i := 8) sc_fav.nd rfl (.inl rfl) (pe_op op_add (pe_getP hu (pv 1) (pe_tup (pa_cons (pv 6) (pa_cons (pv 2) pa_nil))) (fun _ _ => rfl)) (pe_ifExp (pt_cmpR op_eq (pv 7) (pv 2) (nomark _)) pe_int (pe_dget hu (pv 3) (pv 6) (fun _ _ => rfl)))))
        (pss_cons (ps_set (i := 9) sc_fav.nd rfl (.inl rfl) (pe_op op_add (pe_getP hu (pv 1) (pe_tup (pa_cons (pv 6) (pa_cons (pv 4) pa_nil))) (fun _ _ => rfl)) (pe_ifExp (pt_cmpR op_eq (pv 7) (pv 4) (nomark _)) pe_int (pe_dget hu (pv 3) (pv 6) (fun _ _ => rfl)))))
        (pss_one (ps_dput hu (pv 5) (pv 6) (pe_ifExp (pt_cmpR op_le (pv 8) (pv 9) (nomark _)) (pv 2) (pv 4)) rfl))))))
      (pss_one (ps_ret (pe_call Gw hr rfl Dw.g Dw.F.kp Dw.b .nil pass0 (pa_cons (pv 0) (pa_cons (pv 5) pa_nil)))))))), ?_⟩
    have hv := ht.val
    have l100 := ht.len
    obtain ⟨dx, q, fo_, k, p, qs, h1, _⟩ := id ht.ex
    have noB : (tf q fo_ k p).lookup ("below" : Str) = none := tf_no _ _ _ _ (by decide +kernel) (by decide +kernel) (by decide +kernel) (by decide +kernel)
    have noF : (tf q fo_ k p).lookup ("folder" : Str) = none := tf_no _ _ _ _ (by decide +kernel) (by decide +kernel) (by decide +kernel) (by decide +kernel)
    have topm : ("top" : Str) ∈ plc rs := mem_plc.mpr (.inl rfl)
    refine ⟨_, rfl, t, rs, rfl, ht, fun sd H1 hsd s1 esd => ?_⟩
    refine ⟨_, rfl, _, rfl, ?_⟩
    refine fun wd hwd => ?_
    have sw : Same H1 (upd H1 wd (.dK [])) := Same.new hwd
    have ew : (upd H1 wd (.dK [])) wd = some (.dK []) := upd_same
    generalize upd H1 wd (.dK []) = H2 at sw ew
    have tb1 : PTI P w H1 pa rs f := htab.same s1
    have tb2 := tb1.same sw
    refine ⟨_, rfl, _, rfl, (by show 2 ≤ sizeLine; decide), fun a1 ha1 => ?_⟩
    have s3 : Same H2 (upd H2 a1 (.tup [V.str ("top" : Str), V.bl fav])) := Same.new ha1
    refine (tb2.same s3).get topm upd_same ?_
    generalize upd H2 a1 (.tup [V.str ("top" : Str), V.bl fav]) = H3 at s3
    refine ⟨_, rfl, _, rfl, (by show 2 ≤ sizeLine; decide), fun a2 ha2 => ?_⟩
    have s4 : Same H3 (upd H3 a2 (.tup [V.str ("top" : Str), V.bl (!fav)])) := Same.new ha2
    refine (tb2.same (s3.trans s4)).get topm upd_same ?_
    have s24 := s3.trans s4
    generalize upd H3 a2 (.tup [V.str ("top" : Str), V.bl (!fav)]) = H4 at s24
    have ew4 := s24 _ _ ew
    clear s3 s4 ha1 ha2
    refine ⟨_, _, rfl, rfl, _, rfl, ?_⟩
    refine if_var (v := .bl (favV rs f fav "top")) rfl rfl (by rw [favV_top hv]; by_cases c : f "top" fav ≤ f "top" (!fav) <;> simp [c]) ?_
    refine ⟨ew4, [(.inr ("top" : Str), .bl (favV rs f fav "top"))], rfl, (by show 1 ≤ 15; decide), ?_⟩
    have nH : H wd = none := s1.free hwd
    have S5 : Same H (upd H4 wd (.dK (mergeK [] [(.inr ("top" : Str), .bl (favV rs f fav "top"))]))) := fun b o e => by
      rw [upd_ne (ne_of_none e nH)]; exact s24 _ _ (sw _ _ (s1 _ _ e))
    have e5 : (upd H4 wd (.dK (mergeK [] [(.inr ("top" : Str), .bl (favV rs f fav "top"))]))) wd = some (.dK (((plc rs).take 1).map fun z => ((.inr z : Key), V.bl (favV rs f fav z)))) := upd_same
    have esd5 : (upd H4 wd (.dK (mergeK [] [(.inr ("top" : Str), .bl (favV rs f fav "top"))]))) sd = some (.dK (kvF (fun r => .int (stepR rs r)) rs)) := by
      rw [upd_ne (ne_of_none esd hwd)]; exact s24 _ _ (sw _ _ esd)
    have nsw : sd ≠ wd := ne_of_none esd hwd
    clear s24 ew4 tb2 tb1 ew sw
    generalize upd H4 wd (.dK (mergeK [] [(.inr ("top" : Str), .bl (favV rs f fav "top"))])) = H5 at S5 e5 esd5
    refine ⟨_, rfl, t, dx, _, rfl, S5 _ _ h1, noB, t, ("top" : Str), rs, rfl, ht.same S5, .inl rfl, fun bl H6 hbl s6 e6 => ?_⟩
    rw [below_top hv] at e6
    have S6 := S5.trans s6
    have esd6 := s6 _ _ esd5
    have nbw : bl ≠ wd := fun x => by rw [← x, hbl] at e5; cases e5
    have ln : ((names rs).map V.str).length = rs.length := by unfold names; rw [List.length_map, List.length_map]
    refine ⟨bl, rfl, ⟨_, SqL.of e6⟩, ?_⟩
    refine for_list (K := K) (a := bl) (xs := (names rs).map V.str) (fun i σ H' => ∃ v6 v7 v8 v9 : Option V, σ = [some (.ref t), some (.ref pa), some (.bl fav), some (.ref sd), some (.bl (!fav)), some (.ref wd), v6, v7, v8, v9] ∧ SB wd H6 H' ∧ H' wd = some (.dK (((plc rs).take (i + 1)).map fun z => ((.inr z : Key), V.bl (favV rs f fav z))))) ⟨none, none, none, none, rfl, SB.refl _ _, s6 _ _ e5⟩ (fun i σ H' _ ⟨_, _, _, _, _, sb, _⟩ => SqL.of (sb _ _ nbw e6)) ?_ ?_
    · rintro i x σ H7 hx ⟨v6, v7, v8, v9, rfl, sb7, e7⟩
      obtain ⟨r, rfl, hr'⟩ := nms_at hx
      have hrm := List.mem_of_getElem? hr'
      have il : i < rs.length := (List.getElem?_eq_some_iff.mp hr').1
      have S7 : Same H H7 := fun b o e => sb7 _ _ (ne_of_none e nH) (S6 _ _ e)
      have tb7 : PTI P w H7 pa rs f := htab.same S7
      have hz : (plc rs)[i + 1]? = some r.nm := by
        unfold plc names
        rw [List.getElem?_cons_succ, List.getElem?_map, hr']; rfl
      have hfo : r.fo ∈ (plc rs).take (i + 1) := by
        have := fo_pre (hv i r hr')
        unfold plc names at this ⊢
        rw [List.take_succ_cons, ← List.map_take]
        exact this
      have dgf : DGet H7 wd (.str r.fo) (some (.bl (favV rs f fav r.fo))) := .inl ⟨_, .inr r.fo, .inl e7, rfl, (valV_list (favV rs f fav) hfo).symm⟩
      refine ⟨_, rfl, _, rfl, t, dx, _, rfl, S7 _ _ h1, noF, _, rfl, t, r.nm, rs, r, rfl, ht.same S7, rowOf_at hv hr', wd, _, rfl, dgf, ?_⟩
      -- with the favour
      refine ⟨_, rfl, _, rfl, _, rfl, (by show 2 ≤ sizeLine; decide), fun a1 ha1 => ?_⟩
      have s8 : Same H7 (upd H7 a1 (.tup [V.str r.nm, V.bl fav])) := Same.new ha1
      refine (tb7.same s8).get (nm_plc hrm) upd_same ?_
      generalize upd H7 a1 (.tup [V.str r.nm, V.bl fav]) = H8 at s8
      have dgs : ∀ {H' : Hp}, Same H7 H' → DGet H' sd (.str r.nm) (some (.int (stepR rs r))) := fun {H'} s => .inl ⟨_, .inr r.nm, .inl (s _ _ (sb7 _ _ nsw esd6)), rfl, (kvF_val (g := fun r => .int (stepR rs r)) hv hrm).symm⟩
      refine ⟨_, rfl, _, rfl, rfl, _, rfl, ?_⟩
      refine if_zero (v := if favV rs f fav r.fo = fav then 0 else stepR rs r) rfl rfl (dgs s8) (by rw [dec_bl]; by_cases c : favV rs f fav r.fo = fav <;> simp [c]) ?_
      refine ⟨_, _, rfl, rfl, ?_⟩
      -- with the other
      refine ⟨_, rfl, _, rfl, _, rfl, (by show 2 ≤ sizeLine; decide), fun a2 ha2 => ?_⟩
      have s9 : Same H8 (upd H8 a2 (.tup [V.str r.nm, V.bl (!fav)])) := Same.new ha2
      have s79 := s8.trans s9
      refine (tb7.same s79).get (nm_plc hrm) upd_same ?_
      generalize upd H8 a2 (.tup [V.str r.nm, V.bl (!fav)]) = H9 at s79
      refine ⟨_, rfl, _, rfl, rfl, _, rfl, ?_⟩
      refine if_zero (v := if favV rs f fav r.fo = !fav then 0 else stepR rs r) rfl rfl (dgs s79) (by rw [dec_bl]; by_cases c : favV rs f fav r.fo = !fav <;> simp [c]) ?_
      refine ⟨_, _, rfl, rfl, ?_⟩
      dsimp only [gName_at', List.set_cons_zero, List.set_cons_succ]
      refine ⟨_, rfl, _, rfl, _, _, rfl, rfl, _, rfl, ?_⟩
      refine if_var (v := .bl (favV rs f fav r.nm)) rfl rfl ?_ ?_
      · rw [favV_row hv f fav hrm]
        unfold pickV
        rw [stepI_row hv hrm]
        by_cases c : f r.nm fav + (if favV rs f fav r.fo = fav then 0 else stepR rs r) ≤ f r.nm (!fav) + (if favV rs f fav r.fo = !fav then 0 else stepR rs r)
        · rw [if_pos c, if_pos (decide_eq_true c)]
        · rw [if_neg c, if_neg (by rw [decide_eq_false c]; exact Bool.false_ne_true)]
      refine ⟨_, rfl, _, rfl, wd, _, rfl, DPut.k (k := Sum.inr r.nm) (s79 _ _ e7) (small1000 (by rw [List.length_map, List.length_take]; omega)), ?_⟩
      refine ⟨_, _, _, _, rfl, fun b o nb eb => by rw [upd_ne nb]; exact s79 _ _ (sb7 _ _ nb eb), ?_⟩
      rw [upd_same]
      exact congrArg (fun z => some (HO.dK z)) (kvP_more (plc_nodup hv) (favV rs f fav) hz)
    rintro σ H7 ⟨v6, v7, v8, v9, rfl, sb7, e7⟩
    have S7 : Same H H7 := fun b o e => sb7 _ _ (ne_of_none e nH) (S6 _ _ e)
    rw [ln, show (plc rs).take (rs.length + 1) = plc rs from List.take_of_length_le (by unfold plc names; rw [List.length_cons, List.length_map]; exact Nat.le_refl _)] at e7
    refine ⟨_, rfl, _, rfl, t, wd, rs, _, rfl, ht.same S7, e7, hnl, fun m H8 s8 hm => hq m H8 (S7.trans s8) hm⟩
end
end Ts

set_option maxRecDepth 100000
set_option maxHeartbeats 8000000
namespace Ts
open PySem L2
/-! ### parts and ways -/
abbrev Part := Int × Str
abbrev Way3 := Int × Str × Str
def PtA (H : Hp) : List Addr → List Part → Prop := Paired fun a e => H a = some (.tup [.int e.1, .str e.2])
def PtL (H : Hp) (a : Addr) (l : List Part) : Prop := ∃ as, H a = some (.lst (as.map V.ref)) ∧ PtA H as l
def WyA (H : Hp) : List Addr → List Way3 → Prop := Paired fun a e => H a = some (.tup [.int e.1, .str e.2.1, .str e.2.2])
def WyL (H : Hp) (a : Addr) (l : List Way3) : Prop := ∃ as, H a = some (.lst (as.map V.ref)) ∧ WyA H as l
/-- tuples stay -/
def TupS (H H' : Hp) : Prop := ∀ b xs, H b = some (.tup xs) → H' b = some (.tup xs)
theorem same_t {H H' : Hp} (s : Same H H') : TupS H H' := fun b xs e => s _ _ e
theorem TupS.upd {H : Hp} {a : Addr} {o o' : HO} (h : H a = some o) (n : ∀ xs, o ≠ .tup xs) : TupS H (upd H a o') := fun b xs e => by
  rw [upd_ne fun x => by rw [x, h] at e; exact n _ (Option.some.inj e)]; exact e
theorem TupS.trans {H H' H2 : Hp} (h : TupS H H') (h2 : TupS H' H2) : TupS H H2 := fun b xs e => h2 _ _ (h _ _ e)
theorem PtA.t {H H' : Hp} {as : List Addr} {l : List Part} (h : PtA H as l) (s : TupS H H') : PtA H' as l := h.mono fun _ _ e => s _ _ e
theorem WyA.t {H H' : Hp} {as : List Addr} {l : List Way3} (h : WyA H as l) (s : TupS H H') : WyA H' as l := h.mono fun _ _ e => s _ _ e
theorem PtL.same {H H' : Hp} {a : Addr} {l : List Part} (h : PtL H a l) (s : Same H H') : PtL H' a l := let ⟨as, h1, h2⟩ := h; ⟨as, s _ _ h1, h2.t (same_t s)⟩
theorem WyL.same {H H' : Hp} {a : Addr} {l : List Way3} (h : WyL H a l) (s : Same H H') : WyL H' a l := let ⟨as, h1, h2⟩ := h; ⟨as, s _ _ h1, h2.t (same_t s)⟩
def shorterL : List Part → Int → List Part
  | [], _ => []
  | (n, p) :: rest, m => (if m < n then [(n - m, p)] else []) ++ rest
def pairF : Nat → List Part → List Part → List Way3 → List Way3 × List Part × List Part
  | 0, o, f, w => (w, o, f)
  | n + 1, (a, x) :: o, (b, y) :: f, w => pairF n (shorterL ((a, x) :: o) (min a b)) (shorterL ((b, y) :: f) (min a b)) (w ++ [(min a b, x, y)])
  | _ + 1, [], f, w => (w, [], f)
  | _ + 1, o, [], w => (w, o, [])
def pairL (o f : List Part) : List Way3 × List Part × List Part := pairF (o.length + f.length) o f []
def letL : List Part → Int → List Part
  | [], _ => []
  | (a, x) :: l, p => (if 0 < min a p then [(min a p, x)] else []) ++ letL l (p - min a p)
theorem shorter_len {l : List Part} {m : Int} : (shorterL l m).length ≤ l.length := by
  match l with
  | [] => exact Nat.le_refl _
  | (n, p) :: l =>
    show ((if m < n then [(n - m, p)] else []) ++ l).length ≤ _
    by_cases h : m < n
    · rw [if_pos h]; simp
    · rw [if_neg h]; simp
theorem shorter_two (a b : Int) (x y : Str) (o f : List Part) : (shorterL ((a, x) :: o) (min a b)).length + (shorterL ((b, y) :: f) (min a b)).length < ((a, x) :: o).length + ((b, y) :: f).length := by
  show ((if min a b < a then [(a - min a b, x)] else []) ++ o).length + ((if min a b < b then [(b - min a b, y)] else []) ++ f).length < _
  by_cases h : min a b < a
  · have h2 : ¬ min a b < b := by omega
    rw [if_pos h, if_neg h2]; simp <;> omega
  · rw [if_neg h]
    by_cases h2 : min a b < b
    · rw [if_pos h2]; simp <;> omega
    · rw [if_neg h2]; simp <;> omega
theorem let_len : ∀ (l : List Part) (p : Int), (letL l p).length ≤ l.length
  | [], _ => Nat.le_refl _
  | (a, x) :: l, p => by
    have := let_len l (p - min a p)
    unfold letL
    rw [List.length_append, List.length_cons]
    split <;> simp <;> omega
theorem pairF_nil1 (n : Nat) (f : List Part) (w : List Way3) : pairF n [] f w = (w, [], f) := by cases n <;> rfl
theorem pairF_nil2 (n : Nat) (o : List Part) (w : List Way3) : pairF n o [] w = (w, o, []) := by
  cases n with
  | zero => rfl
  | succ n => cases o <;> rfl
theorem pairF_len : ∀ (n : Nat) (o f : List Part) (w : List Way3), (pairF n o f w).1.length + (pairF n o f w).2.1.length + (pairF n o f w).2.2.length ≤ w.length + o.length + f.length
  | 0, o, f, w => Nat.le_refl _
  | n + 1, [], f, w => by rw [pairF_nil1]; exact Nat.le_refl _
  | n + 1, e :: o, [], w => by rw [pairF_nil2]; exact Nat.le_refl _
  | n + 1, (a, x) :: o, (b, y) :: f, w => by
    have h := pairF_len n (shorterL ((a, x) :: o) (min a b)) (shorterL ((b, y) :: f) (min a b)) (w ++ [(min a b, x, y)])
    have h2 := shorter_two a b x y o f
    have e : pairF (n + 1) ((a, x) :: o) ((b, y) :: f) w = pairF n (shorterL ((a, x) :: o) (min a b)) (shorterL ((b, y) :: f) (min a b)) (w ++ [(min a b, x, y)]) := rfl
    rw [e]
    rw [List.length_append] at h
    simp only [List.length_cons, List.length_nil] at h h2 ⊢
    omega
theorem sIx_n (n k : Nat) (d : Nat) : HT.sIx n d (some (k : Int)) = min k n := by
  unfold HT.sIx
  simp only []
  split
  · omega
  · omega
theorem cut_drop (xs : List V) (k : Nat) : cutV xs (some (k : Int)) none = xs.drop k := by
  unfold cutV
  rw [HT.sIx_none, sIx_n]
  rcases Nat.le_total k xs.length with h | h
  · rw [Nat.min_eq_left h, List.take_of_length_le (by rw [List.length_drop]; exact Nat.le_refl _)]
  · rw [Nat.min_eq_right h, List.drop_of_length_le (Nat.le_refl _), List.drop_of_length_le h]
    simp
def spShorter : Sp := fun vs H Q _ => ∃ (a : Addr) (m : Int) (e : Part) (l : List Part), vs = [.ref a, .int m] ∧ PtL H a (e :: l) ∧ l.length ≤ 900 ∧ ∀ b H', H b = none → Same H H' → PtL H' b (shorterL (e :: l) m) → Q (.ref b) H'
def spPaired : Sp := fun vs H Q _ => ∃ (a b : Addr) (o f : List Part), vs = [.ref a, .ref b] ∧ PtL H a o ∧ PtL H b f ∧ o.length + f.length ≤ 400 ∧
  ∀ (T W A B : Addr) (H' : Hp), Same H H' → H' T = some (.tup [.ref W, .ref A, .ref B]) → WyL H' W (pairL o f).1 → PtL H' A (pairL o f).2.1 → PtL H' B (pairL o f).2.2 → (A = a ∨ H A = none) → (B = b ∨ H B = none) → Q (.ref T) H'
def spLet : Sp := fun vs H Q _ => ∃ (a : Addr) (p : Int) (l : List Part), vs = [.ref a, .int p] ∧ PtL H a l ∧ l.length ≤ 900 ∧ ∀ b H', H b = none → Same H H' → PtL H' b (letL l p) → Q (.ref b) H'
section
variable {P : Program} {w : World} {K : PySem.W.Frag} {mg : Str → Option Value} {base : Heap} {C CM CB : Addr}
abbrev nSh : List Str := ["parts", "amount", "first", "place", "rest"]
theorem sc_shorter : FnScope nSh ["parts", "amount"] (defScope s_shorter) := ⟨rfl, rfl, rfl, by decide +kernel, rfl, by decide +kernel, by decide +kernel⟩
theorem ok_shorter (D : DefAt K mg "shorter" s_shorter ["parts", "amount"]) : FnOk P w K mg base CX0 1 D.f D.fd ["parts", "amount"] spShorter := by
  refine D.F.ok sc_shorter (fun vs H Q E h => ?_) (fun cdv A outer s H vs Q E hr h => ?_)
  · obtain ⟨a, m, e, l, rfl, _⟩ := h
    rfl
  · obtain ⟨a, m, e, l, rfl, ⟨as, ha, hp⟩, hl, hq⟩ := h
    refine ⟨_, pss_cons (ps_asg (pe_ix ix_list (pv 0) pe_int (fun _ _ => rfl)) (pg_tup rfl (pgs_cons (pg_name (i := 2) sc_shorter.nd rfl (.inl rfl)) (pgs_cons (pg_name (i := 3) sc_shorter.nd rfl (.inl rfl)) pgs_nil))))
      (pss_cons (ps_set (i := 4) sc_shorter.nd rfl (.inl rfl) (pe_ifExp (pt_cmpR op_gt (pv 2) (pv 1) (nomark _)) (pe_lst (pa_cons (pe_tup (pa_cons (pe_op op_sub (pv 2) (pv 1)) (pa_cons (pv 3) pa_nil))) pa_nil)) (pe_lst pa_nil)))
      (pss_one (ps_ret (pe_op op_cat (pv 4) (pe_slice sl_list (pv 0) (po_some pe_int) po_none))))), ?_⟩
    obtain ⟨x, p⟩ := e
    cases hp with
    | cons h1 h2 =>
      rename_i a0 as'
      have l2 : as'.length = l.length := h2.length
      refine ⟨_, rfl, a, _, _, _, rfl, rfl, SqL.of ha, atI_nat (j := 0) rfl, ?_⟩
      refine ⟨a0, _, rfl, sqT h1, rfl, _, _, rfl, _, _, rfl, rfl, ?_⟩
      refine ⟨_, rfl, _, rfl, _, _, rfl, rfl, _, rfl, ?_⟩
      by_cases hc : m < x
      · refine iteT' (decide_eq_true hc) ⟨_, rfl, _, rfl, _, _, rfl, rfl, _, rfl, (by show 2 ≤ sizeLine; decide), fun t1 ht1 => ⟨(by show 1 ≤ sizeLine; decide), fun r1 hr1 => ?_⟩⟩
        have s1 : Same H (upd H t1 (.tup [V.int (x - m), V.str p])) := Same.new ht1
        have e1 : (upd H t1 (.tup [V.int (x - m), V.str p])) t1 = some (.tup [V.int (x - m), V.str p]) := upd_same
        generalize upd H t1 (.tup [V.int (x - m), V.str p]) = H1 at s1 e1 hr1
        have s2 : Same H1 (upd H1 r1 (.lst [V.ref t1])) := Same.new hr1
        have e2 : (upd H1 r1 (.lst [V.ref t1])) r1 = some (.lst [V.ref t1]) := upd_same
        generalize upd H1 r1 (.lst [V.ref t1]) = H2 at s2 e2
        refine ⟨_, rfl, _, rfl, _, rfl, a, _, rfl, SqL.of ((s1.trans s2) _ _ ha), fun u1 hu1 => ?_⟩
        rw [show (some (1 : Int)) = some ((1 : Nat) : Int) from rfl, cut_drop]
        have s3 : Same H2 (upd H2 u1 (.lst (((a0 :: as').map V.ref).drop 1))) := Same.new hu1
        have e3 : (upd H2 u1 (.lst (((a0 :: as').map V.ref).drop 1))) u1 = some (.lst (as'.map V.ref)) := upd_same
        generalize upd H2 u1 (.lst (((a0 :: as').map V.ref).drop 1)) = H3 at s3 e3
        refine ⟨r1, u1, _, _, rfl, rfl, s3 _ _ e2, e3, Nat.le_of_lt (small1000 (by rw [List.length_map]; show 1 + as'.length ≤ 1000; omega)), fun g hg => ?_⟩
        have S3 := s1.trans (s2.trans s3)
        refine hq g _ (S3.free hg) (S3.trans (Same.new hg)) ⟨t1 :: as', upd_same, ?_⟩
        have sg : TupS H3 (upd H3 g (.lst ([V.ref t1] ++ as'.map V.ref))) := same_t (Same.new hg)
        show PtA _ _ ((if m < x then [(x - m, p)] else []) ++ l)
        rw [if_pos hc]
        exact .cons (sg _ _ ((s2.trans s3) _ _ e1)) ((show PtA H as' l from h2).t ((same_t S3).trans sg))
      · refine iteF' (decide_eq_false hc) ⟨Nat.zero_le _, fun r1 hr1 => ?_⟩
        have s2 : Same H (upd H r1 (.lst [])) := Same.new hr1
        have e2 : (upd H r1 (.lst [])) r1 = some (.lst []) := upd_same
        generalize upd H r1 (.lst []) = H2 at s2 e2
        refine ⟨_, rfl, _, rfl, _, rfl, a, _, rfl, SqL.of (s2 _ _ ha), fun u1 hu1 => ?_⟩
        rw [show (some (1 : Int)) = some ((1 : Nat) : Int) from rfl, cut_drop]
        have s3 : Same H2 (upd H2 u1 (.lst (((a0 :: as').map V.ref).drop 1))) := Same.new hu1
        have e3 : (upd H2 u1 (.lst (((a0 :: as').map V.ref).drop 1))) u1 = some (.lst (as'.map V.ref)) := upd_same
        generalize upd H2 u1 (.lst (((a0 :: as').map V.ref).drop 1)) = H3 at s3 e3
        refine ⟨r1, u1, _, _, rfl, rfl, s3 _ _ e2, e3, Nat.le_of_lt (small1000 (by rw [List.length_map]; show 0 + as'.length ≤ 1000; omega)), fun g hg => ?_⟩
        have S3 := s2.trans s3
        refine hq g _ (S3.free hg) (S3.trans (Same.new hg)) ⟨as', upd_same, ?_⟩
        show PtA _ _ ((if m < x then [(x - m, p)] else []) ++ l)
        rw [if_neg hc]
        exact (show PtA H as' l from h2).t ((same_t S3).trans (same_t (Same.new hg)))
abbrev nPd : List Str := ["ons", "offs", "ways", "amount"]
theorem sc_paired : FnScope nPd ["ons", "offs"] (defScope s_paired) := ⟨rfl, rfl, rfl, by decide +kernel, rfl, by decide +kernel, by decide +kernel⟩
def lenA (H : Hp) (a : Addr) : Nat := match H a with
  | some (.lst xs) => xs.length
  | _ => 0
def muPd : List (Option V) → Hp → Nat
  | [some (.ref a), some (.ref b), _, _], H => lenA H a + lenA H b
  | _, _ => 0
theorem PtL.lenA {H : Hp} {a : Addr} {l : List Part} (h : PtL H a l) : Ts.lenA H a = l.length := by
  obtain ⟨as, h1, h2⟩ := h
  unfold Ts.lenA
  rw [h1]
  show (as.map V.ref).length = _
  rw [List.length_map]; exact h2.length
theorem ok_paired (D : DefAt K mg "paired" s_paired ["ons", "offs"]) (hM : mg "min" = none) (Dh : DefAt K mg "shorter" s_shorter ["parts", "amount"]) (Gh : FnOk P w K mg base CX0 1 Dh.f Dh.fd ["parts", "amount"] spShorter) : FnOk P w K mg base CX0 2 D.f D.fd ["ons", "offs"] spPaired := by
  refine D.F.ok sc_paired (fun vs H Q E h => ?_) (fun cdv A outer s H vs Q E hr h => ?_)
  · obtain ⟨a, b, o, f, rfl, _⟩ := h
    rfl
  · obtain ⟨a, b, o, f, rfl, ho, hf, hl, hq⟩ := h
    refine ⟨_, pss_cons (ps_set (i := 2) sc_paired.nd rfl (.inl rfl) (pe_lst pa_nil))
      (pss_cons (ps_while PassesOwn.never (PW.pt (pw_and (pt_truth (pv 0) (by intro _; rfl)) (pw_and1 (pt_truth (pv 1) (by intro _; rfl)))))
        (pss_cons (ps_set (i := 3) sc_paired.nd rfl (.inl rfl) (pe_callB (call_min2 rfl) (by rfl) hM (by decide +kernel) (pa_cons (pe_ix ix_tup (pe_ix ix_list (pv 0) pe_int (fun _ _ => rfl)) pe_int (fun _ _ => rfl)) (pa_cons (pe_ix ix_tup (pe_ix ix_list (pv 1) pe_int (fun _ _ => rfl)) pe_int (fun _ _ => rfl)) pa_nil))))
        (pss_cons (ps_expr (pe_bm PySem.F.plainAttrs_list PySem.F.slot_list_append PySem.F.type_list_append mt_append (pv 2) (pa_cons (pe_tup (pa_cons (pv 3) (pa_cons (pe_ix ix_tup (pe_ix ix_list (pv 0) pe_int (fun _ _ => rfl)) pe_int (fun _ _ => rfl)) (pa_cons (pe_ix ix_tup (pe_ix ix_list (pv 1) pe_int (fun _ _ => rfl)) pe_int (fun _ _ => rfl)) pa_nil)))) pa_nil)))
        (pss_one (ps_par rfl sc_paired.nd (i := 0) (j := 1) rfl rfl (by decide) rfl rfl (pa_cons (pe_call Gh hr rfl Dh.g Dh.F.kp Dh.b .nil pass0 (pa_cons (pv 0) (pa_cons (pv 3) pa_nil))) (pa_cons (pe_call Gh hr rfl Dh.g Dh.F.kp Dh.b .nil pass0 (pa_cons (pv 1) (pa_cons (pv 3) pa_nil))) pa_nil)) rfl)))))
      (pss_one (ps_ret (pe_tup (pa_cons (pv 2) (pa_cons (pv 0) (pa_cons (pv 1) pa_nil))))))), ?_⟩
    refine ⟨Nat.zero_le _, fun wl hwl => ?_⟩
    have s1 : Same H (upd H wl (.lst [])) := Same.new hwl
    have e1 : (upd H wl (.lst [])) wl = some (.lst []) := upd_same
    generalize upd H wl (.lst []) = H1 at s1 e1
    have ho1 := ho.same s1
    have hf1 := hf.same s1
    have na : a ≠ wl := by obtain ⟨as, h, _⟩ := ho; exact ne_of_none h hwl
    have nb : b ≠ wl := by obtain ⟨as, h, _⟩ := hf; exact ne_of_none h hwl
    refine while_by (fun σ H' => ∃ (a' b' : Addr) (o' f' : List Part) (w' : List Way3) (v3 : Option V) (n : Nat), σ = [some (.ref a'), some (.ref b'), some (.ref wl), v3] ∧ Same H H' ∧ PtL H' a' o' ∧ PtL H' b' f' ∧ WyL H' wl w' ∧ a' ≠ wl ∧ b' ≠ wl ∧ (a' = a ∨ H a' = none) ∧ (b' = b ∨ H b' = none) ∧ o'.length + f'.length ≤ n ∧ pairF n o' f' w' = pairL o f ∧ w'.length + o'.length + f'.length ≤ 400) muPd
      ⟨a, b, o, f, [], none, o.length + f.length, rfl, s1, ho1, hf1, ⟨[], e1, .nil⟩, na, nb, .inl rfl, .inl rfl, Nat.le_refl _, rfl, by simpa using hl⟩ ?_ (fun σ H Q Q' hQ h => ?_)
    · rintro σ H2 ⟨a', b', o', f', w', v3, n, rfl, s2, ha', hb', hw', na', nb', oa', ob', hn, hp, hsz⟩
      obtain ⟨as, ea, pa⟩ := id ha'
      obtain ⟨bs, eb, pb⟩ := id hb'
      obtain ⟨ws, ew, pw⟩ := id hw'
      have done : pairL o f = (w', o', f') → tRet (tTup (tCons (tVar 2) (tCons (tVar 0) (tCons (tVar 1) tNil)))) { nx := fun _ H' => Q .non H', rt := Q } [some (.ref a'), some (.ref b'), some (.ref wl), v3] H2 := fun e => by
        refine ⟨_, rfl, _, rfl, _, rfl, (by show 3 ≤ sizeLine; decide), fun T hT => ?_⟩
        have sT := Same.new (o := .tup [V.ref wl, V.ref a', V.ref b']) hT
        exact hq T wl a' b' _ (s2.trans sT) upd_same (by rw [e]; exact hw'.same sT) (by rw [e]; exact ha'.same sT) (by rw [e]; exact hb'.same sT) oa' ob'
      refine ⟨_, rfl, !(as.map V.ref).isEmpty, .inl ⟨_, SqL.of ea, rfl⟩, ?_⟩
      cases pa with
      | nil => exact iteF' rfl (iteF (done (by rw [← hp, pairF_nil1])))
      | cons x1 x2 =>
        rename_i a0 e0 as' o1
        refine iteT' rfl ⟨_, rfl, !(bs.map V.ref).isEmpty, .inl ⟨_, SqL.of eb, rfl⟩, ?_⟩
        cases pb with
        | nil => exact iteF' rfl (done (by rw [← hp, pairF_nil2]))
        | cons y1 y2 =>
          rename_i b0 e0' bs' f1
          refine iteT' rfl ?_
          obtain ⟨x, ax⟩ := e0
          obtain ⟨y, by_⟩ := e0'
          have hn1 : n ≠ 0 := by simp only [List.length_cons] at hn; omega
          obtain ⟨n', rfl⟩ := Nat.exists_eq_succ_of_ne_zero hn1
          refine ⟨_, rfl, a', _, _, _, rfl, rfl, SqL.of ea, atI_nat (j := 0) rfl, a0, _, _, _, rfl, rfl, sqT x1, atI_nat (j := 0) rfl, ?_⟩
          refine ⟨_, rfl, b', _, _, _, rfl, rfl, SqL.of eb, atI_nat (j := 0) rfl, b0, _, _, _, rfl, rfl, sqT y1, atI_nat (j := 0) rfl, ?_⟩
          refine ⟨_, _, rfl, ?_⟩
          rw [min_if]
          refine ⟨_, rfl, .inl ⟨rfl, _, SqL.of ew⟩, ?_⟩
          refine ⟨_, rfl, _, rfl, a', _, _, _, rfl, rfl, SqL.of ea, atI_nat (j := 0) rfl, a0, _, _, _, rfl, rfl, sqT x1, atI_nat (j := 1) rfl, ?_⟩
          refine ⟨_, rfl, b', _, _, _, rfl, rfl, SqL.of eb, atI_nat (j := 0) rfl, b0, _, _, _, rfl, rfl, sqT y1, atI_nat (j := 1) rfl, (by show 3 ≤ sizeLine; decide), fun tw htw => ?_⟩
          have s3 : Same H2 (upd H2 tw (.tup [V.int (min x y), V.str ax, V.str by_])) := Same.new htw
          have e3 : (upd H2 tw (.tup [V.int (min x y), V.str ax, V.str by_])) tw = some (.tup [V.int (min x y), V.str ax, V.str by_]) := upd_same
          generalize upd H2 tw (.tup [V.int (min x y), V.str ax, V.str by_]) = H3 at s3 e3
          have lw : ws.length = w'.length := pw.length
          have ew3 := s3 _ _ ew
          refine ⟨wl, _, _, rfl, rfl, ew3, small1000 (by rw [List.length_map]; omega), ?_⟩
          have t4 : TupS H3 (upd H3 wl (.lst (ws.map V.ref ++ [V.ref tw]))) := TupS.upd ew3 (fun xs e => nomatch e)
          have k4 : ∀ c o, c ≠ wl → H3 c = some o → (upd H3 wl (.lst (ws.map V.ref ++ [V.ref tw]))) c = some o := fun c o n e => by rw [upd_ne n]; exact e
          have e4 : (upd H3 wl (.lst (ws.map V.ref ++ [V.ref tw]))) wl = some (.lst ((ws ++ [tw]).map V.ref)) := by rw [upd_same, List.map_append]; rfl
          generalize upd H3 wl (.lst (ws.map V.ref ++ [V.ref tw])) = H4 at t4 k4 e4
          have S4 : Same H H4 := fun c o e => k4 _ _ (ne_of_none e hwl) (s3 _ _ (s2 _ _ e))
          have t24 : TupS H2 H4 := (same_t s3).trans t4
          have pa4 : PtL H4 a' ((x, ax) :: o1) := ⟨_, k4 _ _ na' (s3 _ _ ea), PtA.t (H := H2) (.cons x1 x2) t24⟩
          have pb4 : PtL H4 b' ((y, by_) :: f1) := ⟨_, k4 _ _ nb' (s3 _ _ eb), PtA.t (H := H2) (.cons y1 y2) t24⟩
          have pw4 : WyL H4 wl (w' ++ [(min x y, ax, by_)]) := ⟨_, e4, ((show WyA H2 ws w' from pw).t t24).snoc (t4 _ _ e3)⟩
          simp only [List.length_cons] at hsz hn
          clear ea eb ew x1 x2 y1 y2 pw hw' s3 e3 ew3 t4 k4 e4 t24 done htw
          refine ⟨_, rfl, _, rfl, a', min x y, (x, ax), o1, rfl, pa4, by omega, fun a5 H5 ha5 s5 pa5 => ?_⟩
          have pb5 := pb4.same s5
          refine ⟨_, rfl, _, rfl, b', min x y, (y, by_), f1, rfl, pb5, by omega, fun b6 H6 hb6 s6 pb6 => ?_⟩
          have pa6 := pa5.same s6
          have pw6 := (pw4.same s5).same s6
          have nw : ∀ {c : Addr} {Hx : Hp}, Hx c = none → Same H4 Hx → c ≠ wl := fun {c Hx} hc sx e => by
            obtain ⟨_, e4, _⟩ := pw4
            rw [e, sx _ _ e4] at hc; cases hc
          refine ⟨_, _, rfl, ⟨a5, b6, _, _, _, _, n', rfl, S4.trans (s5.trans s6), pa6, pb6, pw6, nw ha5 (Same.refl _), nw hb6 s5, .inr (S4.free ha5), .inr ((S4.trans s5).free hb6), ?_, hp, ?_⟩, ?_⟩
          · have := shorter_two x y ax by_ o1 f1
            simp only [List.length_cons] at this
            omega
          · have := shorter_two x y ax by_ o1 f1
            simp only [List.length_cons] at this
            rw [List.length_append]
            simp only [List.length_cons, List.length_nil]
            omega
          · have h1 := shorter_two x y ax by_ o1 f1
            show lenA H6 a5 + lenA H6 b6 < lenA H2 a' + lenA H2 b'
            rw [pa6.lenA, pb6.lenA, ha'.lenA, hb'.lenA]
            exact h1
    · obtain ⟨v, e, k, tk, q⟩ := h
      refine ⟨v, e, k, tk, ?_⟩
      cases k with
      | false => exact hQ _ _ q
      | true =>
        obtain ⟨v2, e2, k2, tk2, q2⟩ := q
        exact ⟨v2, e2, k2, tk2, hQ _ _ q2⟩
abbrev nLt : List Str := ["parts", "price", "through", "amount", "place", "borne"]
theorem sc_let : FnScope nLt ["parts", "price"] (defScope s_let_through) := ⟨rfl, rfl, rfl, by decide +kernel, rfl, by decide +kernel, by decide +kernel⟩
def letF : Int → List Part → List Part → List Part
  | _, acc, [] => acc
  | p, acc, (a, x) :: l => letF (p - min a p) (acc ++ if 0 < min a p then [(min a p, x)] else []) l
theorem letF_eq : ∀ (l : List Part) (p : Int) (acc : List Part), letF p acc l = acc ++ letL l p
  | [], p, acc => (List.append_nil acc).symm
  | (a, x) :: l, p, acc => by
    show letF _ _ l = acc ++ ((if 0 < min a p then [(min a p, x)] else []) ++ letL l (p - min a p))
    rw [letF_eq l, List.append_assoc]
theorem ok_let (D : DefAt K mg "let_through" s_let_through ["parts", "price"]) (hM : mg "min" = none) : FnOk P w K mg base CX0 1 D.f D.fd ["parts", "price"] spLet := by
  refine D.F.ok sc_let (fun vs H Q E h => ?_) (fun cdv A outer s H vs Q E hr h => ?_)
  · obtain ⟨a, p, l, rfl, _⟩ := h
    rfl
  · obtain ⟨a, p, l, rfl, ⟨as, ha, hp⟩, hl, hq⟩ := h
    refine ⟨_, pss_cons (ps_set (i := 2) sc_let.nd rfl (.inl rfl) (pe_lst pa_nil))
      (pss_cons (ps_for PassesOwn.never rfl (pi_list (pv 0)) (pg_tup rfl (pgs_cons (pg_name (i := 3) sc_let.nd rfl (.inl rfl)) (pgs_cons (pg_name (i := 4) sc_let.nd rfl (.inl rfl)) pgs_nil)))
        (pss_cons (ps_set (i := 5) sc_let.nd rfl (.inl rfl) (pe_callB (call_min2 rfl) (by rfl) hM (by decide +kernel) (pa_cons (pv 3) (pa_cons (pv 1) pa_nil))))
        (pss_cons (ps_set (i := 1) sc_let.nd rfl (.inl rfl) (pe_op op_sub (pv 1) (pv 5)))
        (pss_one (ps_if (pt_cmpR op_gt (pv 5) pe_int (nomark _)) (pss_one (ps_expr (pe_bm PySem.F.plainAttrs_list PySem.F.slot_list_append PySem.F.type_list_append mt_append (pv 2) (pa_cons (pe_tup (pa_cons (pv 5) (pa_cons (pv 4) pa_nil))) pa_nil)))) pss_nil)))))
      (pss_one (ps_ret (pv 2)))), ?_⟩
    refine ⟨Nat.zero_le _, fun tl htl => ?_⟩
    have s1 : Same H (upd H tl (.lst [])) := Same.new htl
    have e1 : (upd H tl (.lst [])) tl = some (.lst []) := upd_same
    generalize upd H tl (.lst []) = H1 at s1 e1
    have na : a ≠ tl := ne_of_none ha htl
    refine ⟨_, rfl, a, rfl, ⟨_, SqL.of (s1 _ _ ha)⟩, ?_⟩
    have ll : as.length = l.length := hp.length
    refine for_list (K := K) (a := a) (xs := as.map V.ref) (fun i σ H' => ∃ (p' : Int) (acc : List Part) (v3 v4 v5 : Option V), σ = [some (.ref a), some (.int p'), some (.ref tl), v3, v4, v5] ∧ Same H H' ∧ PtL H' tl acc ∧ acc.length ≤ i ∧ letF p' acc (l.drop i) = letF p [] l)
      ⟨p, [], none, none, none, rfl, s1, ⟨[], e1, .nil⟩, Nat.le_refl _, rfl⟩ (fun i σ H' _ ⟨_, _, _, _, _, _, s, _⟩ => SqL.of (s _ _ ha)) ?_ ?_
    · rintro i x σ H2 hx ⟨p', acc, v3, v4, v5, rfl, s2, hacc, hai, hlet⟩
      rw [List.getElem?_map] at hx
      obtain ⟨a0, ha0, rfl⟩ := Option.map_eq_some_iff.mp hx
      obtain ⟨⟨n, z⟩, he, h0⟩ := paired_get hp ha0
      have hil : i < l.length := (List.getElem?_eq_some_iff.mp he).1
      have ed : l.drop i = (n, z) :: l.drop (i + 1) := by
        rw [List.drop_eq_getElem_cons hil]
        rw [List.getElem?_eq_getElem hil] at he
        rw [Option.some.inj he]
      rw [ed] at hlet
      have hlet : letF (p' - min n p') (acc ++ if 0 < min n p' then [(min n p', z)] else []) (l.drop (i + 1)) = letF p [] l := hlet
      refine ⟨a0, _, rfl, sqT (s2 _ _ h0), rfl, _, _, rfl, _, _, rfl, rfl, ?_⟩
      refine ⟨_, rfl, _, rfl, _, _, rfl, ?_⟩
      rw [min_if]
      refine ⟨_, rfl, _, rfl, _, _, rfl, rfl, ?_⟩
      refine ⟨_, rfl, _, _, rfl, rfl, _, rfl, ?_⟩
      by_cases hc : 0 < min n p'
      · rw [if_pos hc] at hlet
        obtain ⟨ts, ets, pts⟩ := hacc
        have lts : ts.length = acc.length := pts.length
        refine iteT' (decide_eq_true hc) ⟨_, rfl, .inl ⟨rfl, _, SqL.of ets⟩, _, rfl, _, rfl, (by show 2 ≤ sizeLine; decide), fun t1 ht1 => ?_⟩
        have s3 : Same H2 (upd H2 t1 (.tup [V.int (min n p'), V.str z])) := Same.new ht1
        have e3 : (upd H2 t1 (.tup [V.int (min n p'), V.str z])) t1 = some (.tup [V.int (min n p'), V.str z]) := upd_same
        generalize upd H2 t1 (.tup [V.int (min n p'), V.str z]) = H3 at s3 e3
        refine ⟨tl, _, _, rfl, rfl, s3 _ _ ets, small1000 (by rw [List.length_map]; omega), ?_⟩
        have t4 : TupS H3 (upd H3 tl (.lst (ts.map V.ref ++ [V.ref t1]))) := TupS.upd (s3 _ _ ets) (fun xs e => nomatch e)
        refine ⟨_, _, _, _, _, rfl, fun c o e => by rw [upd_ne (ne_of_none e htl)]; exact s3 _ _ (s2 _ _ e), ⟨ts ++ [t1], by rw [upd_same, List.map_append]; rfl, ((show PtA H2 ts acc from pts).t ((same_t s3).trans t4)).snoc (t4 _ _ e3)⟩, by rw [List.length_append]; exact Nat.succ_le_succ hai, hlet⟩
      · rw [if_neg hc, List.append_nil] at hlet
        exact iteF' (decide_eq_false hc) ⟨_, _, _, _, _, rfl, s2, hacc, by omega, hlet⟩
    rintro σ H2 ⟨p', acc, v3, v4, v5, rfl, s2, hacc, hai, hlet⟩
    rw [List.length_map, ll, List.drop_length] at hlet
    have e : acc = letL l p := by
      have : acc = letF p [] l := hlet
      rw [this, letF_eq]; rfl
    refine ⟨_, rfl, hq tl _ htl s2 (by rw [← e]; exact hacc)⟩
end
end Ts

set_option maxRecDepth 100000
set_option maxHeartbeats 8000000
namespace Ts
open PySem L2
abbrev Wait := Str → Bool → List Part
def endP (rs : List Row) (es : Wsh) (W : Wait) (z : Str) (b : Bool) : List Part := if endO es z = some b then [(endlessI rs, z)] else W z b
def meetP (rs : List Row) (es : Wsh) (W : Wait) (z : Str) : List Way3 × List Part × List Part := pairL (endP rs es W z true) (endP rs es W z false)
def sideP (m : List Way3 × List Part × List Part) (b : Bool) : List Part := if b = true then m.2.1 else m.2.2
def stepW (rs : List Row) (es : Wsh) (r : Row) (S : List Way3 × Wait) : List Way3 × Wait := (S.1 ++ (meetP rs es S.2 r.nm).1, fun z b => if z = r.fo then S.2 z b ++ letL (sideP (meetP rs es S.2 r.nm) b) (stepR rs r) else S.2 z b)
def waysS (rs : List Row) (es : Wsh) : List Row → List Way3 × Wait
  | [] => ([], fun _ _ => [])
  | r :: l => stepW rs es r (waysS rs es l)
def waysF (rs : List Row) (es : Wsh) : List Way3 := (waysS rs es rs).1 ++ (meetP rs es (waysS rs es rs).2 "top").1
theorem end_len (rs : List Row) (es : Wsh) (W : Wait) (z : Str) : (endP rs es W z true).length + (endP rs es W z false).length ≤ (W z true).length + (W z false).length + 1 := by
  unfold endP
  cases c : endO es z with
  | none => simp
  | some b => cases b <;> simp <;> omega
theorem meet_len (rs : List Row) (es : Wsh) (W : Wait) (z : Str) : (meetP rs es W z).1.length + (meetP rs es W z).2.1.length + (meetP rs es W z).2.2.length ≤ (W z true).length + (W z false).length + 1 := by
  have h1 := end_len rs es W z
  have h2 := pairF_len ((endP rs es W z true).length + (endP rs es W z false).length) (endP rs es W z true) (endP rs es W z false) []
  unfold meetP pairL
  simp only [List.length_nil] at h2
  omega
def wLen (W : Wait) (z : Str) : Nat := (W z true).length + (W z false).length
theorem sum_le_one {l : List Str} (nd : l.Nodup) {a : Str} (ha : a ∈ l) {f g : Str → Nat} {m : Nat} (h : ∀ z ∈ l, z ≠ a → f z = g z) (h2 : f a ≤ g a + m) : (l.map f).sum ≤ (l.map g).sum + m := by
  induction l with
  | nil => cases ha
  | cons b l ih =>
    rw [List.nodup_cons] at nd
    rw [List.map_cons, List.map_cons, List.sum_cons, List.sum_cons]
    by_cases q : b = a
    · have e : l.map f = l.map g := List.map_congr_left fun z hz => h z (List.mem_cons_of_mem _ hz) fun x => nd.1 (by rw [q, ← x]; exact hz)
      rw [e, q]; omega
    · have := ih nd.2 ((List.mem_cons.mp ha).resolve_left fun x => q x.symm) fun z hz => h z (List.mem_cons_of_mem _ hz)
      rw [h b (List.mem_cons_self ..) q]; omega
theorem ways_pot (rs : List Row) (es : Wsh) : ∀ (suf pre : List Row), Valid (pre ++ suf) → (waysS rs es suf).1.length + ((plc pre).map (wLen (waysS rs es suf).2)).sum ≤ suf.length
  | [], pre, _ => by
    have : ∀ l : List Str, (l.map (wLen fun _ _ => [])).sum = 0 := fun l => by
      induction l with
      | nil => rfl
      | cons a l ih => rw [List.map_cons, List.sum_cons, ih]; rfl
    show 0 + ((plc pre).map (wLen fun _ _ => [])).sum ≤ 0
    rw [this]; exact Nat.le_refl _
  | r :: suf, pre, h => by
    have ih := ways_pot rs es suf (pre ++ [r]) (by rw [List.append_assoc]; exact h)
    have hf := fits_at h
    rw [plc_snoc, List.map_append, List.sum_append] at ih
    simp only [List.map_cons, List.map_nil, List.sum_cons, List.sum_nil] at ih
    show (stepW rs es r (waysS rs es suf)).1.length + ((plc pre).map (wLen (stepW rs es r (waysS rs es suf)).2)).sum ≤ suf.length + 1
    generalize waysS rs es suf = S at ih
    have hm := meet_len rs es S.2 r.nm
    have l1 := let_len (meetP rs es S.2 r.nm).2.1 (stepR rs r)
    have l2 := let_len (meetP rs es S.2 r.nm).2.2 (stepR rs r)
    have hs := sum_le_one (plc_nodup (valid_pre h)) (fo_pre hf) (f := wLen (stepW rs es r S).2) (g := wLen S.2) (m := (meetP rs es S.2 r.nm).2.1.length + (meetP rs es S.2 r.nm).2.2.length) (fun z _ hz => by
      unfold wLen stepW
      simp only [if_neg hz]) (by
      unfold wLen stepW sideP
      simp only [if_true, Bool.false_eq_true, if_false, List.length_append]
      omega)
    show (S.1 ++ (meetP rs es S.2 r.nm).1).length + _ ≤ _
    rw [List.length_append]
    unfold wLen at ih hs ⊢
    omega
theorem wlen_mem {l : List Str} {g : Str → Nat} {a : Str} (ha : a ∈ l) : g a ≤ (l.map g).sum := by
  induction l with
  | nil => cases ha
  | cons b l ih =>
    rw [List.map_cons, List.sum_cons]
    rcases List.mem_cons.mp ha with rfl | ha
    · omega
    · have := ih ha; omega
theorem PtA.app {H : Hp} {as bs : List Addr} {l l2 : List Part} (h : PtA H as l) (h2 : PtA H bs l2) : PtA H (as ++ bs) (l ++ l2) := by
  unfold PtA at h h2 ⊢
  induction h with
  | nil => exact h2
  | cons q t ih => exact .cons q ih
theorem WyA.app {H : Hp} {as bs : List Addr} {l l2 : List Way3} (h : WyA H as l) (h2 : WyA H bs l2) : WyA H (as ++ bs) (l ++ l2) := by
  unfold WyA at h h2 ⊢
  induction h with
  | nil => exact h2
  | cons q t ih => exact .cons q ih
/-! ### what waits, as it stands -/
structure WtI (P : Program) (w : World) (H0 H : Hp) (wd wl rl : Addr) (ps : List Str) (W : Wait) (ad : Str → Bool → Addr) : Prop where
  tab : PTab P w H wd ps (fun z b => .ref (ad z b))
  lst : ∀ z ∈ ps, ∀ b, PtL H (ad z b) (W z b)
  new : ∀ z ∈ ps, ∀ b, H0 (ad z b) = none ∧ ad z b ≠ rl ∧ ad z b ≠ wl
  inj : ∀ z ∈ ps, ∀ z' ∈ ps, ∀ b b', ad z b = ad z' b' → z = z' ∧ b = b'
section
variable {P : Program} {w : World} {H0 H H' : Hp} {wd wl rl : Addr} {ps : List Str} {W : Wait} {ad : Str → Bool → Addr}
theorem WtI.same (h : WtI P w H0 H wd wl rl ps W ad) (s : Same H H') : WtI P w H0 H' wd wl rl ps W ad := ⟨h.tab.same s, fun z hz b => (h.lst z hz b).same s, h.new, h.inj⟩
theorem WtI.sub {qs : List Str} (h : WtI P w H0 H wd wl rl ps W ad) (s : ∀ z ∈ qs, z ∈ ps) : WtI P w H0 H wd wl rl qs W ad :=
  ⟨let ⟨l, h1, h2, h3⟩ := h.tab; ⟨l, h1, h2, fun z hz => h3 z (s z hz)⟩, fun z hz => h.lst z (s z hz), fun z hz => h.new z (s z hz), fun z hz z' hz' => h.inj z (s z hz) z' (s z' hz')⟩
theorem WtI.dW (h : WtI P w H0 H wd wl rl ps W ad) : ∃ l, H wd = some (DicP P w none wd l) := h.tab.has
theorem WtI.nd (h : WtI P w H0 H wd wl rl ps W ad) {z : Str} (hz : z ∈ ps) (b : Bool) : ad z b ≠ wd := fun e => by
  obtain ⟨l, hl⟩ := h.dW
  obtain ⟨as, h1, _⟩ := h.lst z hz b
  rw [e, hl] at h1
  cases h1
/-- another list takes the place of one -/
theorem WtI.set {H1 : Hp} {Q : Hp → Prop} {z : Str} {b : Bool} {n a : Addr} {l1 : List Part} (h : WtI P w H0 H wd wl rl ps W ad) (s : Same H H1) (hn : H n = none) (hn0 : H0 n = none) (nr : n ≠ rl) (nl : n ≠ wl) (hl : PtL H1 n l1) (hz : z ∈ ps) (ha : H1 a = some (.tup [.str z, .bl b]))
    (q : ∀ H2, (∀ c o, c ≠ wd → H1 c = some o → H2 c = some o) → WtI P w H0 H2 wd wl rl ps (fun y c => if y = z ∧ c = b then l1 else W y c) (fun y c => if y = z ∧ c = b then n else ad y c) → Q H2) : rSetP P w (.ref wd) (.ref a) (.ref n) H1 Q := by
  have h1 := h.same s
  refine h1.tab.set hz ha fun H2 s2 t2 => q H2 s2 ?_
  have nnd : n ≠ wd := by
    obtain ⟨l, hl⟩ := h.dW
    exact fun e => by rw [e, hl] at hn; cases hn
  have nad : ∀ y ∈ ps, ∀ c, n ≠ ad y c := fun y hy c e => by
    obtain ⟨as, h1, _⟩ := h.lst y hy c
    rw [← e, hn] at h1; cases h1
  obtain ⟨lD, hD⟩ := h1.dW
  have tp : TupS H1 H2 := fun c xs e => s2 c _ (fun x => by rw [x, hD] at e; cases e) e
  have keep : ∀ {c : Addr} {l : List Part}, c ≠ wd → PtL H1 c l → PtL H2 c l := fun {c l} nc ⟨as, e1, e2⟩ => ⟨as, s2 _ _ nc e1, e2.t tp⟩
  refine ⟨t2.imp fun y hy c => ?_, fun y hy c => ?_, fun y hy c => ?_, fun y hy y' hy' c c' e => ?_⟩
  · by_cases k : z = y ∧ b = c
    · rw [if_pos k, if_pos ⟨k.1.symm, k.2.symm⟩]
    · rw [if_neg k, if_neg fun x => k ⟨x.1.symm, x.2.symm⟩]
  · show PtL H2 (if y = z ∧ c = b then n else ad y c) (if y = z ∧ c = b then l1 else W y c)
    by_cases k : y = z ∧ c = b
    · rw [if_pos k, if_pos k]; exact keep nnd hl
    · rw [if_neg k, if_neg k]; exact keep (h.nd hy c) (h1.lst y hy c)
  · show H0 (if y = z ∧ c = b then n else ad y c) = none ∧ (if y = z ∧ c = b then n else ad y c) ≠ rl ∧ (if y = z ∧ c = b then n else ad y c) ≠ wl
    by_cases k : y = z ∧ c = b
    · rw [if_pos k]; exact ⟨hn0, nr, nl⟩
    · rw [if_neg k]; exact h.new y hy c
  · have e : (if y = z ∧ c = b then n else ad y c) = (if y' = z ∧ c' = b then n else ad y' c') := e
    by_cases k : y = z ∧ c = b <;> by_cases k' : y' = z ∧ c' = b
    · exact ⟨k.1.trans k'.1.symm, k.2.trans k'.2.symm⟩
    · rw [if_pos k, if_neg k'] at e; exact absurd e (nad y' hy' c')
    · rw [if_neg k, if_pos k'] at e; exact absurd e.symm (nad y hy c)
    · rw [if_neg k, if_neg k'] at e; exact h.inj y hy y' hy' c c' e
/-- a list grows -/
theorem WtI.ext {z : Str} {b : Bool} {as bs : List Addr} {l2 : List Part} (h : WtI P w H0 H wd wl rl ps W ad) (hz : z ∈ ps) (ha : H (ad z b) = some (.lst (as.map V.ref))) (hb : PtA H bs l2) :
    WtI P w H0 (upd H (ad z b) (.lst (as.map V.ref ++ bs.map V.ref))) wd wl rl ps (fun y c => if y = z ∧ c = b then W y c ++ l2 else W y c) ad := by
  have tp : TupS H (upd H (ad z b) (.lst (as.map V.ref ++ bs.map V.ref))) := TupS.upd ha fun xs e => nomatch e
  refine ⟨h.tab.other (d := ad z b) (fun c o n e => by rw [upd_ne n]; exact e) ha (fun xs e => nomatch e) (h.nd hz b).symm, fun y hy c => ?_, h.new, h.inj⟩
  obtain ⟨cs, e1, e2⟩ := h.lst y hy c
  show PtL _ (ad y c) (if y = z ∧ c = b then W y c ++ l2 else W y c)
  by_cases k : y = z ∧ c = b
  · obtain ⟨rfl, rfl⟩ := k
    rw [if_pos ⟨rfl, rfl⟩]
    have : cs = as := by
      rw [e1] at ha
      have := HO.lst.inj (Option.some.inj ha)
      exact (List.map_inj_right (f := V.ref) fun x y e => V.ref.inj e).mp this
    subst this
    refine ⟨cs ++ bs, by rw [upd_same, List.map_append], ?_⟩
    exact (e2.t tp).app (hb.t tp)
  · rw [if_neg k]
    exact ⟨cs, by rw [upd_ne fun x => k (h.inj y hy z hz c b x)]; exact e1, e2.t tp⟩
/-- the list of the ways grows -/
theorem WtI.oth {o' : List V} (h : WtI P w H0 H wd wl rl ps W ad) (k : ∀ c o, c ≠ wl → H c = some o → H' c = some o) (hw : H wl = some (.lst o')) (nd : wd ≠ wl) : WtI P w H0 H' wd wl rl ps W ad := by
  have tp : TupS H H' := fun c xs e => k c _ (fun x => by rw [x, hw] at e; cases e) e
  exact ⟨h.tab.other k hw (fun xs e => nomatch e) nd, fun z hz b => let ⟨as, e1, e2⟩ := h.lst z hz b; ⟨as, k _ _ (h.new z hz b).2.2 e1, e2.t tp⟩, h.new, h.inj⟩
theorem WtI.imp {W' : Wait} (h : WtI P w H0 H wd wl rl ps W ad) (e : ∀ z ∈ ps, ∀ b, W z b = W' z b) : WtI P w H0 H wd wl rl ps W' ad := ⟨h.tab, fun z hz b => by rw [← e z hz b]; exact h.lst z hz b, h.new, h.inj⟩
end
end Ts

set_option maxRecDepth 100000
set_option maxHeartbeats 4000000
namespace Ts
open PySem L2
/-! ### what the cheapest choices share -/
theorem phi_gap {rs : List Row} {es : Wsh} {v : Str → Bool} : ∀ (suf pre : List Row), Valid (pre ++ suf) → ∀ pre' r suf', pre ++ suf = pre' ++ r :: suf' → pre.length ≤ pre'.length → phi rs es v pre suf + gapI rs (tabT rs es suf') v r ≤ phi rs es v (pre ++ suf) []
  | [], pre, _, pre', r, suf', e, hl => by
    have := congrArg List.length e
    simp only [List.append_nil, List.length_append, List.length_cons] at this
    omega
  | q :: suf, pre, h, pre', r, suf', e, hl => by
    have h1 := phi_step (rs := rs) (es := es) (v := v) h
    have h' : Valid ((pre ++ [q]) ++ suf) := by rw [List.append_assoc]; exact h
    have h3 := gap_pos (rs := rs) (f := tabT rs es suf) (v := v) (r := q)
    by_cases hq : pre.length = pre'.length
    · obtain ⟨e1, e2⟩ := List.append_inj e hq
      cases e2
      have h2 := phi_le (rs := rs) (es := es) (v := v) suf (pre ++ [q]) h'
      rw [List.append_assoc] at h2
      have h4 : phi rs es v (pre ++ [q]) suf ≤ phi rs es v (pre ++ q :: suf) [] := h2
      omega
    · have h2 := phi_gap (rs := rs) (es := es) (v := v) suf (pre ++ [q]) h' pre' r suf' (by rw [List.append_assoc]; exact e) (by rw [List.length_append]; show _ + 1 ≤ _; omega)
      rw [List.append_assoc] at h2
      have h4 : phi rs es v (pre ++ [q]) suf + gapI rs (tabT rs es suf') v r ≤ phi rs es v (pre ++ q :: suf) [] := h2
      omega
/-- the cheapest choices are tight at each box -/
theorem opt_gap {rs : List Row} (hv : Valid rs) {es : Wsh} (nd : (es.map (·.1)).Nodup) {v : Str → Bool} (h1 : NoLk rs v) (h2 : Keeps es v) (hc : priceV rs v = cheapI rs es) {r : Row} (hr : r ∈ rs) : gapI rs (tabF rs es) v r = 0 := by
  obtain ⟨pre, suf, e⟩ := List.append_of_mem hr
  have h := phi_gap (rs := rs) (es := es) (v := v) rs [] hv pre r suf e (Nat.zero_le _)
  rw [phi_nil] at h
  have h' : tabF rs es "top" (v "top") + gapI rs (tabT rs es suf) v r ≤ fullW rs es v := h
  rw [full_nice hv nd h1 h2, hc] at h'
  have g0 := gap_pos (rs := rs) (f := tabT rs es suf) (v := v) (r := r)
  have t : cheapI rs es ≤ tabF rs es "top" (v "top") := by
    unfold cheapI
    cases v "top" <;> omega
  have g : gapI rs (tabT rs es suf) v r = 0 := by omega
  rw [← g]
  unfold gapI
  rw [tab_fix hv es e, tab_fix hv es e, tab_fix hv es e]
theorem opt_top {rs : List Row} (hv : Valid rs) {es : Wsh} (nd : (es.map (·.1)).Nodup) {v : Str → Bool} (h1 : NoLk rs v) (h2 : Keeps es v) (hc : priceV rs v = cheapI rs es) : tabF rs es "top" (v "top") = cheapI rs es := by
  have h := tab_le hv es v
  rw [full_nice hv nd h1 h2, hc] at h
  have t : cheapI rs es ≤ tabF rs es "top" (v "top") := by
    unfold cheapI
    cases v "top" <;> omega
  omega
theorem step_pos {rs : List Row} (hv : Valid rs) {r : Row} (hr : r ∈ rs) : 0 ≤ stepR rs r := by
  have h := hv.prI hr
  have e := endless_pos hv
  unfold stepR
  unfold Ts.prI at h
  cases c : r.pr with
  | none => show 0 ≤ endlessI rs; omega
  | some p => rw [c] at h; exact h
/-- a value that one of the cheapest has, the favoured has -/
theorem fav_opt {rs : List Row} (hv : Valid rs) {es : Wsh} (nd : (es.map (·.1)).Nodup) {v : Str → Bool} (h1 : NoLk rs v) (h2 : Keeps es v) (hc : priceV rs v = cheapI rs es) (fav : Bool) : ∀ z ∈ plc rs, v z = fav → favV rs (tabF rs es) fav z = fav := by
  have top : v "top" = fav → favV rs (tabF rs es) fav "top" = fav := fun e => by
    have t := opt_top hv nd h1 h2 hc
    rw [favV_top hv, if_pos]
    rw [e] at t
    rw [t]
    unfold cheapI
    cases fav <;> simp only [Bool.not_true, Bool.not_false] <;> omega
  have key : ∀ (n : Nat), n ≤ rs.length → ∀ r ∈ rs.take n, v r.nm = fav → favV rs (tabF rs es) fav r.nm = fav := by
    intro n
    induction n with
    | zero => exact fun _ r hr => by cases hr
    | succ n ih =>
      intro hn r hr e
      have hrn : rs[n]? = some rs[n] := List.getElem?_eq_getElem (by omega)
      rw [take_more hrn] at hr
      rcases List.mem_append.mp hr with hr | hr
      · exact ih (by omega) r hr e
      have er : r = rs[n] := List.mem_singleton.mp hr
      have hrm : r ∈ rs := by rw [er]; exact List.getElem_mem _
      have home := (hv n r (by rw [er]; exact hrn)).home
      have up : v r.fo = fav → favV rs (tabF rs es) fav r.fo = fav := fun eu => by
        rcases home with eh | ⟨q, hq, eh, _⟩
        · rw [eh] at eu ⊢; exact top eu
        · rw [← eh] at eu ⊢; exact ih (by omega) q hq eu
      have g := opt_gap hv nd h1 h2 hc hrm
      have s0 := step_pos hv hrm
      rw [favV_row hv _ _ hrm]
      unfold pickV
      rw [stepI_row hv hrm]
      unfold gapI turnI at g
      rw [e] at g
      refine if_pos ?_
      generalize tabF rs es r.nm = f at g
      generalize stepR rs r = p at g s0
      generalize hw : favV rs (tabF rs es) fav r.fo = w at up ⊢
      generalize v r.fo = u at g up
      cases fav <;> cases u <;> cases w <;> simp only [Bool.not_true, Bool.not_false, if_true, Bool.false_eq_true, if_false, Bool.true_eq_false, Int.add_zero, reduceCtorEq, forall_const, false_implies, true_implies] at g up ⊢ <;> omega
  intro z hz e
  rcases mem_plc.mp hz with rfl | hz
  · exact top e
  · obtain ⟨r, hr, rfl⟩ := List.mem_map.mp hz
    exact key rs.length (Nat.le_refl _) r (by rw [List.take_length]; exact hr) e
/-! ### two ends with locked steps between bar each other -/
theorem lock_same {rs : List Row} (hv : Valid rs) {v : Str → Bool} (h : NoLk rs v) : ∀ z ∈ plc rs, v z = v (lockR rs z) := by
  have key : ∀ (n : Nat), n ≤ rs.length → ∀ r ∈ rs.take n, v r.nm = v (lockR rs r.nm) := by
    intro n
    induction n with
    | zero => exact fun _ r hr => by cases hr
    | succ n ih =>
      intro hn r hr
      have hrn : rs[n]? = some rs[n] := List.getElem?_eq_getElem (by omega)
      rw [take_more hrn] at hr
      rcases List.mem_append.mp hr with hr | hr
      · exact ih (by omega) r hr
      have er : r = rs[n] := List.mem_singleton.mp hr
      have hrm : r ∈ rs := by rw [er]; exact List.getElem_mem _
      rw [lockR_row hv hrm]
      by_cases q : r.pr = none
      · rw [if_pos q, h r hrm q]
        rcases (hv n r (by rw [er]; exact hrn)).home with eh | ⟨q', hq, eh, _⟩
        · rw [eh, lockR_top hv]
        · rw [← eh]; exact ih (by omega) q' hq
      · rw [if_neg q]
  intro z hz
  rcases mem_plc.mp hz with rfl | hz
  · rw [lockR_top hv]
  · obtain ⟨r, hr, rfl⟩ := List.mem_map.mp hz
    exact key rs.length (Nat.le_refl _) r (by rw [List.take_length]; exact hr)
end Ts

set_option maxRecDepth 100000
set_option maxHeartbeats 4000000
namespace Ts
open PySem L2
/-! ### all values that keep some ends and turn no locked step -/
abbrev Sta := (Str → Bool) × Int
def putV (v : Str → Bool) (z : Str) (b : Bool) : Str → Bool := fun y => if y = z then b else v y
def nextS (es : Wsh) (r : Row) (s : Sta) : List Sta :=
  (if endO es r.nm = some (!(s.1 r.fo)) then [] else [(putV s.1 r.nm (s.1 r.fo), s.2)]) ++
  (match r.pr with
   | none => []
   | some p => if endO es r.nm = some (s.1 r.fo) then [] else [(putV s.1 r.nm (!(s.1 r.fo)), s.2 + p)])
def initS (es : Wsh) : List Sta := ([false, true].filter fun b => !decide (endO es "top" = some (!b))).map fun b => (fun _ => b, 0)
def allS (es : Wsh) (rs : List Row) : List Sta := rs.foldl (fun S r => S.flatMap (nextS es r)) (initS es)
theorem allS_snoc (es : Wsh) (pre : List Row) (r : Row) : allS es (pre ++ [r]) = (allS es pre).flatMap (nextS es r) := by
  unfold allS
  rw [List.foldl_append]; rfl
theorem next_len (es : Wsh) (r : Row) (s : Sta) : (nextS es r s).length ≤ 2 := by
  unfold nextS
  rw [List.length_append]
  have h1 : (if endO es r.nm = some (!(s.1 r.fo)) then ([] : List Sta) else [(putV s.1 r.nm (s.1 r.fo), s.2)]).length ≤ 1 := by split <;> simp
  have h2 : (match r.pr with
   | none => ([] : List Sta)
   | some p => if endO es r.nm = some (s.1 r.fo) then [] else [(putV s.1 r.nm (!(s.1 r.fo)), s.2 + p)]).length ≤ 1 := by
    cases r.pr with
    | none => simp
    | some p => show (if _ then ([] : List Sta) else [_]).length ≤ 1; split <;> simp
  omega
theorem flat_len {α β : Type} {f : α → List β} {m : Nat} : ∀ l : List α, (∀ x ∈ l, (f x).length ≤ m) → (l.flatMap f).length ≤ m * l.length
  | [], _ => by simp
  | a :: l, h => by
    have := flat_len l fun x hx => h x (List.mem_cons_of_mem _ hx)
    have h1 := h a (List.mem_cons_self ..)
    rw [List.flatMap_cons, List.length_append, List.length_cons, Nat.mul_succ]
    omega
theorem init_len (es : Wsh) : (initS es).length ≤ 2 := by
  unfold initS
  rw [List.length_map]
  exact List.length_filter_le _ _
theorem allS_len (es : Wsh) : ∀ (rs : List Row) (n : Nat), n ≤ rs.length → (allS es (rs.take n)).length ≤ 2 ^ (n + 1)
  | rs, 0, _ => by rw [List.take_zero]; exact init_len es
  | rs, n + 1, h => by
    have hr : rs[n]? = some rs[n] := List.getElem?_eq_getElem (by omega)
    rw [take_more hr, allS_snoc]
    have h1 := allS_len es rs n (by omega)
    have h2 := flat_len (allS es (rs.take n)) fun s _ => next_len es rs[n] s
    rw [Nat.pow_succ]
    omega
theorem mem_next {es : Wsh} {r : Row} {s t : Sta} : t ∈ nextS es r s ↔ (endO es r.nm ≠ some (!(s.1 r.fo)) ∧ t = (putV s.1 r.nm (s.1 r.fo), s.2)) ∨ ∃ p, r.pr = some p ∧ endO es r.nm ≠ some (s.1 r.fo) ∧ t = (putV s.1 r.nm (!(s.1 r.fo)), s.2 + p) := by
  unfold nextS
  rw [List.mem_append]
  refine or_congr ?_ ?_
  · by_cases q : endO es r.nm = some (!(s.1 r.fo))
    · rw [if_pos q]; simp [q]
    · rw [if_neg q]; simp [q]
  · cases c : r.pr with
    | none => simp
    | some p =>
      show t ∈ (if _ then ([] : List Sta) else [_]) ↔ _
      by_cases q : endO es r.nm = some (s.1 r.fo)
      · rw [if_pos q]; simp [q]
      · rw [if_neg q]; simp [q]
theorem putV_ne {v : Str → Bool} {z y : Str} {b : Bool} (h : y ≠ z) : putV v z b y = v y := if_neg h
theorem putV_eq {v : Str → Bool} {z : Str} {b : Bool} : putV v z b z = b := if_pos rfl
theorem put_cost {pre : List Row} (hp : Valid pre) {r : Row} (hf : Fits pre r) (v : Str → Bool) (b : Bool) : priceV pre (putV v r.nm b) = priceV pre v := by
  unfold priceV
  refine congrArg List.sum (List.map_congr_left fun q hq => ?_)
  have n1 : q.nm ≠ r.nm := fun e => hf.new (by rw [← e]; exact List.mem_map.mpr ⟨q, hq, rfl⟩)
  have n2 : q.fo ≠ r.nm := fun e => nm_pre hf (by rw [← e]; exact fo_plc hp hq)
  unfold costV
  rw [putV_ne n1, putV_ne n2]
/-- a set of values that is found -/
def GoodS (es : Wsh) (pre : List Row) (s : Sta) : Prop := NoLk pre s.1 ∧ (∀ z ∈ plc pre, endO es z ≠ some (!(s.1 z))) ∧ s.2 = priceV pre s.1
theorem price_snoc (pre : List Row) (r : Row) (v : Str → Bool) : priceV (pre ++ [r]) v = priceV pre v + costV v r := by
  unfold priceV
  rw [List.map_append, List.sum_append]; simp
theorem allS_sound {es : Wsh} : ∀ (n : Nat) (rs : List Row), Valid rs → n ≤ rs.length → ∀ s ∈ allS es (rs.take n), GoodS es (rs.take n) s
  | 0, rs, hv, _, s, hs => by
    rw [List.take_zero] at hs ⊢
    obtain ⟨b, hb, rfl⟩ := List.mem_map.mp hs
    have hb := (List.mem_filter.mp hb).2
    refine ⟨(fun r hr => by cases hr), fun z hz => ?_, rfl⟩
    rcases mem_plc.mp hz with rfl | hz
    · simpa using hb
    · cases hz
  | n + 1, rs, hv, h, s, hs => by
    have hr : rs[n]? = some rs[n] := List.getElem?_eq_getElem (by omega)
    have hf : Fits (rs.take n) rs[n] := hv n _ hr
    have hp : Valid (rs.take n) := by
      have : rs = rs.take n ++ rs.drop n := (List.take_append_drop n rs).symm
      rw [this] at hv
      exact valid_pre hv
    rw [take_more hr] at hs ⊢
    rw [allS_snoc] at hs
    obtain ⟨s0, hs0, hn⟩ := List.mem_flatMap.mp hs
    obtain ⟨g1, g2, g3⟩ := allS_sound n rs hv (by omega) s0 hs0
    generalize rs.take n = pre at hf hp g1 g2 g3
    generalize rs[n] = r at hf hn
    have nf : r.fo ≠ r.nm := fun e => nm_pre hf (by rw [← e]; exact fo_pre hf)
    have old : ∀ b, ∀ q ∈ pre, putV s0.1 r.nm b q.nm = s0.1 q.nm ∧ putV s0.1 r.nm b q.fo = s0.1 q.fo := fun b q hq =>
      ⟨putV_ne fun e => hf.new (by rw [← e]; exact List.mem_map.mpr ⟨q, hq, rfl⟩), putV_ne fun e => nm_pre hf (by rw [← e]; exact fo_plc hp hq)⟩
    have lk : ∀ b, (r.pr = none → b = s0.1 r.fo) → NoLk (pre ++ [r]) (putV s0.1 r.nm b) := fun b hb q hq e => by
      rcases List.mem_append.mp hq with hq | hq
      · rw [(old b q hq).1, (old b q hq).2]; exact g1 q hq e
      · rw [List.mem_singleton.mp hq] at e ⊢
        rw [putV_eq, putV_ne nf]; exact hb e
    have kp : ∀ b, endO es r.nm ≠ some (!b) → ∀ z ∈ plc (pre ++ [r]), endO es z ≠ some (!(putV s0.1 r.nm b z)) := fun b hb z hz => by
      rw [plc_snoc] at hz
      rcases List.mem_append.mp hz with hz | hz
      · rw [putV_ne fun e => nm_pre hf (by rw [← e]; exact hz)]; exact g2 z hz
      · rw [List.mem_singleton.mp hz, putV_eq]; exact hb
    have co : ∀ b, priceV (pre ++ [r]) (putV s0.1 r.nm b) = s0.2 + if b = s0.1 r.fo then 0 else prI r := fun b => by
      rw [price_snoc, put_cost hp hf, ← g3]
      unfold costV
      rw [putV_eq, putV_ne nf]
    rcases mem_next.mp hn with ⟨h1, rfl⟩ | ⟨p, hpr, h1, rfl⟩
    · exact ⟨lk _ fun _ => rfl, kp _ h1, by rw [co, if_pos rfl]; omega⟩
    · refine ⟨lk _ (fun e => by rw [hpr] at e; cases e), kp _ (by rw [Bool.not_not]; exact h1), ?_⟩
      rw [co, if_neg (by cases s0.1 r.fo <;> simp)]
      unfold prI
      rw [hpr]; rfl
theorem allS_full {es : Wsh} {v : Str → Bool} : ∀ (n : Nat) (rs : List Row), Valid rs → n ≤ rs.length → GoodS es rs (v, priceV rs v) → ∃ s ∈ allS es (rs.take n), (∀ z ∈ plc (rs.take n), s.1 z = v z) ∧ s.2 = priceV (rs.take n) v
  | 0, rs, hv, _, g => by
    rw [List.take_zero]
    refine ⟨(fun _ => v "top", 0), List.mem_map.mpr ⟨v "top", List.mem_filter.mpr ⟨by cases v "top" <;> simp, ?_⟩, rfl⟩, fun z hz => ?_, rfl⟩
    · have := g.2.1 "top" (mem_plc.mpr (.inl rfl))
      simpa using this
    · rcases mem_plc.mp hz with rfl | hz
      · rfl
      · cases hz
  | n + 1, rs, hv, h, g => by
    have hr : rs[n]? = some rs[n] := List.getElem?_eq_getElem (by omega)
    have hf : Fits (rs.take n) rs[n] := hv n _ hr
    have hrm : rs[n] ∈ rs := List.getElem_mem _
    have hp : Valid (rs.take n) := by
      have : rs = rs.take n ++ rs.drop n := (List.take_append_drop n rs).symm
      rw [this] at hv
      exact valid_pre hv
    obtain ⟨s0, hs0, e1, e2⟩ := allS_full n rs hv (by omega) g
    rw [take_more hr, allS_snoc]
    have k1 := g.1 _ hrm
    have k2 := g.2.1 rs[n].nm (mem_plc.mpr (.inr (List.mem_map.mpr ⟨_, hrm, rfl⟩)))
    generalize rs.take n = pre at hf hp hs0 e1 e2
    generalize rs[n] = r at hf k1 k2
    have ef : s0.1 r.fo = v r.fo := e1 _ (fo_pre hf)
    have vals : ∀ b, b = v r.nm → ∀ z ∈ plc (pre ++ [r]), putV s0.1 r.nm b z = v z := fun b hb z hz => by
      rw [plc_snoc] at hz
      rcases List.mem_append.mp hz with hz | hz
      · rw [putV_ne fun e => nm_pre hf (by rw [← e]; exact hz)]; exact e1 z hz
      · rw [List.mem_singleton.mp hz, putV_eq]; exact hb
    by_cases q : v r.nm = v r.fo
    · refine ⟨_, List.mem_flatMap.mpr ⟨s0, hs0, mem_next.mpr (.inl ⟨?_, rfl⟩)⟩, vals _ (by rw [ef, q]), ?_⟩
      · rw [ef, ← q]; exact k2
      · rw [price_snoc]
        unfold costV
        rw [if_pos q, ← e2]; show s0.2 = s0.2 + 0; omega
    · have eb : (!(v r.fo)) = v r.nm := by cases h1 : v r.nm <;> cases h2 : v r.fo <;> simp_all
      cases c : r.pr with
      | none => exact absurd (k1 c) q
      | some p =>
        refine ⟨_, List.mem_flatMap.mpr ⟨s0, hs0, mem_next.mpr (.inr ⟨p, c, ?_, rfl⟩)⟩, vals _ (by rw [ef, eb]), ?_⟩
        · rw [ef]
          have : v r.fo = !(v r.nm) := by rw [← eb, Bool.not_not]
          rw [this]; exact k2
        · rw [price_snoc]
          unfold costV prI
          rw [if_neg q, ← e2, c]; rfl
theorem good_iff {rs : List Row} {es : Wsh} (ok : EndsOk rs es) (v : Str → Bool) (c : Int) : GoodS es rs (v, c) ↔ NoLk rs v ∧ Keeps es v ∧ c = priceV rs v := by
  refine and_congr Iff.rfl (and_congr ⟨fun h e he => ?_, fun h z _ e => ?_⟩ Iff.rfl)
  · have := h e.1 (ok.inp e he)
    rw [endO_mem ok.nd he] at this
    cases h1 : v e.1 <;> cases h2 : e.2 <;> simp_all
  · have := h _ (endO_some e)
    have this : v z = !(v z) := this
    exact absurd this (by cases v z <;> decide)
theorem mem_allS {rs : List Row} (hv : Valid rs) {es : Wsh} (ok : EndsOk rs es) {s : Sta} (h : s ∈ allS es rs) : NoLk rs s.1 ∧ Keeps es s.1 ∧ s.2 = priceV rs s.1 := by
  have := allS_sound rs.length rs hv (Nat.le_refl _) s (by rw [List.take_length]; exact h)
  rw [List.take_length] at this
  exact (good_iff ok s.1 s.2).mp this
theorem allS_has {rs : List Row} (hv : Valid rs) {es : Wsh} (ok : EndsOk rs es) {v : Str → Bool} (h1 : NoLk rs v) (h2 : Keeps es v) : ∃ s ∈ allS es rs, (∀ z ∈ plc rs, s.1 z = v z) ∧ s.2 = priceV rs v := by
  have := allS_full rs.length rs hv (Nat.le_refl _) ((good_iff ok v _).mpr ⟨h1, h2, rfl⟩)
  rw [List.take_length] at this
  exact this
theorem allS_nil {rs : List Row} (hv : Valid rs) {es : Wsh} (ok : EndsOk rs es) : allS es rs = [] ↔ ¬ OpenE rs es := by
  refine ⟨fun h o => ?_, fun h => ?_⟩
  · obtain ⟨s, hs, _⟩ := allS_has hv ok (feas_nolk hv es) (feas_keeps o)
    rw [h] at hs; cases hs
  · cases e : allS es rs with
    | nil => rfl
    | cons s S =>
      refine absurd (fun e1 h1 e2 h2 hl => ?_) h
      obtain ⟨k1, k2, _⟩ := mem_allS hv ok (s := s) (by rw [e]; exact List.mem_cons_self ..)
      rw [← k2 e1 h1, ← k2 e2 h2, lock_same hv k1 _ (ok.inp e1 h1), lock_same hv k1 _ (ok.inp e2 h2), hl]
end Ts

set_option maxRecDepth 100000
set_option maxHeartbeats 4000000
namespace Ts
open PySem L2
/-! ### the numbers count the cheapest choices -/
def prodI (l : List Str) (f : Str → Int) : Int := (l.map f).foldr (· * ·) 1
theorem prod_cons (a : Str) (l : List Str) (f : Str → Int) : prodI (a :: l) f = f a * prodI l f := rfl
theorem prod_snoc (a : Str) (f : Str → Int) : ∀ l : List Str, prodI (l ++ [a]) f = prodI l f * f a
  | [] => by show f a * 1 = 1 * f a; omega
  | b :: l => by rw [List.cons_append, prod_cons, prod_cons, prod_snoc a f l, Int.mul_assoc]
theorem prod_congr {f g : Str → Int} : ∀ {l : List Str}, (∀ z ∈ l, f z = g z) → prodI l f = prodI l g
  | [], _ => rfl
  | b :: l, h => by rw [prod_cons, prod_cons, h b (List.mem_cons_self ..), prod_congr fun z hz => h z (List.mem_cons_of_mem _ hz)]
theorem prod_at {a : Str} {g : Str → Int} {m : Int} : ∀ {l : List Str}, l.Nodup → a ∈ l → prodI l (fun z => if z = a then g z * m else g z) = prodI l g * m
  | [], _, h => by cases h
  | b :: l, nd, h => by
    rw [List.nodup_cons] at nd
    rw [prod_cons, prod_cons]
    by_cases q : b = a
    · have e : prodI l (fun z => if z = a then g z * m else g z) = prodI l g := prod_congr fun z hz => if_neg fun x => nd.1 (by rw [q, ← x]; exact hz)
      rw [if_pos q, e, Int.mul_assoc, Int.mul_assoc, Int.mul_comm m]
    · rw [if_neg q, prod_at nd.2 ((List.mem_cons.mp h).resolve_left fun x => q x.symm), Int.mul_assoc]
theorem prod_ones : ∀ l : List Str, prodI l (fun _ => 1) = 1
  | [] => rfl
  | b :: l => by rw [prod_cons, prod_ones l]; rfl
def compl (es : Wsh) (suf : List Row) (s : Sta) : List Sta := suf.foldl (fun S r => S.flatMap (nextS es r)) [s]
theorem fold_flat (es : Wsh) : ∀ (suf : List Row) (S : List Sta), suf.foldl (fun S r => S.flatMap (nextS es r)) S = S.flatMap (compl es suf)
  | [], S => by
    show S = S.flatMap fun s => [s]
    induction S with
    | nil => rfl
    | cons a S ih => rw [List.flatMap_cons, ← ih]; rfl
  | r :: suf, S => by
    have e : compl es (r :: suf) = fun s => (nextS es r s).flatMap (compl es suf) := by
      funext s
      show suf.foldl _ (List.flatMap (nextS es r) [s]) = _
      rw [List.flatMap_cons, List.flatMap_nil, List.append_nil, fold_flat es suf]
    show suf.foldl _ (S.flatMap (nextS es r)) = _
    rw [fold_flat es suf, e, List.flatMap_assoc]
theorem compl_cons (es : Wsh) (r : Row) (suf : List Row) (s : Sta) : compl es (r :: suf) s = (nextS es r s).flatMap (compl es suf) := by
  show suf.foldl _ (List.flatMap (nextS es r) [s]) = _
  rw [List.flatMap_cons, List.flatMap_nil, List.append_nil, fold_flat es suf]
def cntI (c : Int) (l : List Sta) : Int := ((l.filter fun t => decide (t.2 = c)).length : Nat)
theorem cnt_app (c : Int) (l m : List Sta) : cntI c (l ++ m) = cntI c l + cntI c m := by
  unfold cntI
  rw [List.filter_append, List.length_append]; push_cast; rfl
theorem cnt_flat (c : Int) (f : Sta → List Sta) : ∀ l : List Sta, cntI c (l.flatMap f) = (l.map fun s => cntI c (f s)).sum
  | [] => rfl
  | a :: l => by rw [List.flatMap_cons, cnt_app, List.map_cons, List.sum_cons, cnt_flat c f l]
def phiS (rs : List Row) (es : Wsh) (pre suf : List Row) (s : Sta) : Int := s.2 + ((plc pre).map fun z => tabT rs es suf z (s.1 z)).sum
theorem tab_pen {rs : List Row} (hv : Valid rs) (es : Wsh) : ∀ (suf : List Row), (∀ r ∈ suf, r ∈ rs) → ∀ z b, pen rs es z b ≤ tabT rs es suf z b ∧ 0 ≤ tabT rs es suf z b
  | [], _, z, b => by
    have e := endless_pos hv
    refine ⟨Int.le_refl _, ?_⟩
    show 0 ≤ pen rs es z b
    unfold pen
    split <;> omega
  | r :: suf, h, z, b => by
    have ih := tab_pen hv es suf fun q hq => h q (List.mem_cons_of_mem _ hq)
    have h0 := ih z b
    have h1 := ih r.nm b
    have h2 := ih r.nm (!b)
    have hr := h r (List.mem_cons_self ..)
    have s0 : 0 ≤ stepR rs r := by
      have hp := hv.prI hr
      have e := endless_pos hv
      unfold stepR
      unfold Ts.prI at hp
      cases c : r.pr with
      | none => show 0 ≤ endlessI rs; omega
      | some p => rw [c] at hp; exact hp
    show pen rs es z b ≤ stepT rs r (tabT rs es suf) z b ∧ 0 ≤ stepT rs r (tabT rs es suf) z b
    unfold stepT
    split <;> omega
theorem sum_ge {α : Type} {l : List α} {f : α → Int} (h : ∀ x ∈ l, 0 ≤ f x) : 0 ≤ (l.map f).sum := sum_pos fun x hx => by
  obtain ⟨y, hy, rfl⟩ := List.mem_map.mp hx
  exact h y hy
theorem cnt_main {rs : List Row} (hv : Valid rs) {es : Wsh} (hsm : cheapI rs es < endlessI rs) : ∀ (suf pre : List Row) (s : Sta), rs = pre ++ suf → GoodS es pre s → 0 ≤ s.2 → cheapI rs es ≤ phiS rs es pre suf s →
    cntI (cheapI rs es) (compl es suf s) = if phiS rs es pre suf s = cheapI rs es then prodI (plc pre) (fun z => numT rs es suf z (s.1 z)) else 0
  | [], pre, s, e, g, s0, hle => by
    have e0 : ((plc pre).map fun z => tabT rs es [] z (s.1 z)).sum = 0 := by
      have : (plc pre).map (fun z => tabT rs es [] z (s.1 z)) = (plc pre).map fun _ => (0 : Int) := List.map_congr_left fun z hz => by
        show pen rs es z (s.1 z) = 0
        unfold pen
        exact if_neg (g.2.1 z hz)
      rw [this]
      generalize plc pre = l
      induction l with
      | nil => rfl
      | cons a l ih => rw [List.map_cons, List.sum_cons, ih]; rfl
    have e1 : phiS rs es pre [] s = s.2 := by unfold phiS; rw [e0]; omega
    rw [e1]
    have e2 : prodI (plc pre) (fun z => numT rs es [] z (s.1 z)) = 1 := prod_ones _
    rw [e2]
    show ((([s] : List Sta).filter fun t => decide (t.2 = cheapI rs es)).length : Int) = _
    by_cases q : s.2 = cheapI rs es
    · rw [if_pos q, List.filter_cons_of_pos (by simp [q])]; rfl
    · rw [if_neg q, List.filter_cons_of_neg (by simp [q])]; rfl
  | r :: suf, pre, s, e, g, s0, hle => by
    have hv' := hv
    rw [e] at hv'
    have hf := fits_at hv'
    have hp := valid_pre hv'
    have hrm : r ∈ rs := by rw [e]; simp
    have e' : rs = (pre ++ [r]) ++ suf := by rw [List.append_assoc]; exact e
    have nfo : r.fo ≠ r.nm := fun x => nm_pre hf (by rw [← x]; exact fo_pre hf)
    have tp := tab_pen hv es suf fun q hq => by rw [e]; simp [hq]
    have st0 : 0 ≤ stepR rs r := by
      have h1 := tab_pen hv es [] (fun q hq => by cases hq) r.nm true
      have hp' := hv.prI hrm
      have ep := endless_pos hv
      unfold stepR
      unfold Ts.prI at hp'
      cases c : r.pr with
      | none => show 0 ≤ endlessI rs; omega
      | some p => rw [c] at hp'; exact hp'
    -- what the places ahead have in the table
    have sumS : phiS rs es pre (r :: suf) s = s.2 + ((plc pre).map fun z => tabT rs es suf z (s.1 z)).sum + leastI rs r (tabT rs es suf) (s.1 r.fo) := by
      unfold phiS
      have : ((plc pre).map fun z => tabT rs es (r :: suf) z (s.1 z)) = (plc pre).map fun z => if z = r.fo then tabT rs es suf z (s.1 z) + leastI rs r (tabT rs es suf) (s.1 r.fo) else tabT rs es suf z (s.1 z) := by
        refine List.map_congr_left fun z _ => ?_
        show stepT rs r (tabT rs es suf) z (s.1 z) = _
        unfold stepT leastI
        by_cases q : z = r.fo
        · rw [if_pos q, if_pos q, q]
        · rw [if_neg q, if_neg q]
      rw [this, sum_one (plc_nodup hp) (fo_pre hf)]
      omega
    have prodS : prodI (plc pre) (fun z => numT rs es (r :: suf) z (s.1 z)) = prodI (plc pre) (fun z => numT rs es suf z (s.1 z)) * manyI rs r (tabT rs es suf) (numT rs es suf) (s.1 r.fo) := by
      rw [← prod_at (plc_nodup hp) (fo_pre hf)]
      refine prod_congr fun z _ => ?_
      show stepN rs r (tabT rs es suf) (numT rs es suf) z (s.1 z) = _
      unfold stepN
      by_cases q : z = r.fo
      · rw [if_pos q, if_pos q, q]
      · rw [if_neg q, if_neg q]
    have base0 : 0 ≤ ((plc pre).map fun z => tabT rs es suf z (s.1 z)).sum := sum_ge fun z _ => (tp z _).2
    -- one choice
    have one : ∀ (b : Bool) (c : Int), GoodS es (pre ++ [r]) (putV s.1 r.nm b, s.2 + c) → 0 ≤ c → leastI rs r (tabT rs es suf) (s.1 r.fo) ≤ tabT rs es suf r.nm b + c →
        cntI (cheapI rs es) (compl es suf (putV s.1 r.nm b, s.2 + c)) = if phiS rs es pre (r :: suf) s = cheapI rs es ∧ tabT rs es suf r.nm b + c = leastI rs r (tabT rs es suf) (s.1 r.fo) then prodI (plc pre) (fun z => numT rs es suf z (s.1 z)) * numT rs es suf r.nm b else 0 := by
      intro b c hg c0 hl
      have ep : phiS rs es (pre ++ [r]) suf (putV s.1 r.nm b, s.2 + c) = s.2 + ((plc pre).map fun z => tabT rs es suf z (s.1 z)).sum + (tabT rs es suf r.nm b + c) := by
        unfold phiS
        rw [plc_snoc, List.map_append, List.sum_append]
        have : ((plc pre).map fun z => tabT rs es suf z (putV s.1 r.nm b z)) = (plc pre).map fun z => tabT rs es suf z (s.1 z) := List.map_congr_left fun z hz => by rw [putV_ne fun x => nm_pre hf (by rw [← x]; exact hz)]
        show s.2 + c + (((plc pre).map fun z => tabT rs es suf z (putV s.1 r.nm b z)).sum + ([tabT rs es suf r.nm (putV s.1 r.nm b r.nm)] : List Int).sum) = _
        rw [this, putV_eq]
        simp only [List.sum_cons, List.sum_nil]
        omega
      have eq : prodI (plc (pre ++ [r])) (fun z => numT rs es suf z (putV s.1 r.nm b z)) = prodI (plc pre) (fun z => numT rs es suf z (s.1 z)) * numT rs es suf r.nm b := by
        rw [plc_snoc, prod_snoc, putV_eq]
        congr 1
        exact prod_congr fun z hz => by rw [putV_ne fun x => nm_pre hf (by rw [← x]; exact hz)]
      rw [cnt_main hv hsm suf (pre ++ [r]) _ e' hg (by show 0 ≤ s.2 + c; omega) (by rw [ep]; omega), ep, eq]
      by_cases q1 : phiS rs es pre (r :: suf) s = cheapI rs es
      · by_cases q2 : tabT rs es suf r.nm b + c = leastI rs r (tabT rs es suf) (s.1 r.fo)
        · exact (if_pos (by omega)).trans (if_pos ⟨q1, q2⟩).symm
        · exact (if_neg (by omega)).trans (if_neg fun h => q2 h.2).symm
      · exact (if_neg (by omega)).trans (if_neg fun h => q1 h.1).symm
    rw [compl_cons, cnt_flat, prodS]
    -- a choice that is not among them is dearer
    have bad : ∀ (b : Bool) (c : Int), phiS rs es pre (r :: suf) s = cheapI rs es → tabT rs es suf r.nm b + c = leastI rs r (tabT rs es suf) (s.1 r.fo) → endlessI rs ≤ tabT rs es suf r.nm b + c → False := fun b c h1 h2 h3 => by omega
    have goodT : ∀ t ∈ nextS es r s, GoodS es (pre ++ [r]) t := fun t ht => by
      have hv2 := hv'
      have lk : ∀ b, (r.pr = none → b = s.1 r.fo) → NoLk (pre ++ [r]) (putV s.1 r.nm b) := fun b hb q hq e => by
        rcases List.mem_append.mp hq with hq | hq
        · rw [putV_ne fun x => hf.new (by rw [← x]; exact List.mem_map.mpr ⟨q, hq, rfl⟩), putV_ne fun x => nm_pre hf (by rw [← x]; exact fo_plc hp hq)]
          exact g.1 q hq e
        · rw [List.mem_singleton.mp hq] at e ⊢
          rw [putV_eq, putV_ne nfo]; exact hb e
      have kp : ∀ b, endO es r.nm ≠ some (!b) → ∀ z ∈ plc (pre ++ [r]), endO es z ≠ some (!(putV s.1 r.nm b z)) := fun b hb z hz => by
        rw [plc_snoc] at hz
        rcases List.mem_append.mp hz with hz | hz
        · rw [putV_ne fun x => nm_pre hf (by rw [← x]; exact hz)]; exact g.2.1 z hz
        · rw [List.mem_singleton.mp hz, putV_eq]; exact hb
      have co : ∀ b, priceV (pre ++ [r]) (putV s.1 r.nm b) = s.2 + if b = s.1 r.fo then 0 else prI r := fun b => by
        rw [price_snoc, put_cost hp hf, ← g.2.2]
        unfold costV
        rw [putV_eq, putV_ne nfo]
      rcases mem_next.mp ht with ⟨h1, rfl⟩ | ⟨p, hpr, h1, rfl⟩
      · exact ⟨lk _ fun _ => rfl, kp _ h1, by rw [co, if_pos rfl]; omega⟩
      · refine ⟨lk _ (fun e => by rw [hpr] at e; cases e), kp _ (by rw [Bool.not_not]; exact h1), ?_⟩
        rw [co, if_neg (by cases s.1 r.fo <;> simp)]
        unfold prI
        rw [hpr]; rfl
    have lA : leastI rs r (tabT rs es suf) (s.1 r.fo) ≤ tabT rs es suf r.nm (s.1 r.fo) := by unfold leastI; omega
    have lB : leastI rs r (tabT rs es suf) (s.1 r.fo) ≤ tabT rs es suf r.nm (!(s.1 r.fo)) + stepR rs r := by unfold leastI; omega
    generalize hW : prodI (plc pre) (fun z => numT rs es suf z (s.1 z)) = W at one
    generalize hL : leastI rs r (tabT rs es suf) (s.1 r.fo) = LL at one lA lB bad
    clear sumS prodS hle
    generalize phiS rs es pre (r :: suf) s = PH at one bad ⊢
    have eA : (if endO es r.nm = some (!(s.1 r.fo)) then ([] : List Sta) else [(putV s.1 r.nm (s.1 r.fo), s.2)]).map (fun t => cntI (cheapI rs es) (compl es suf t)) = if endO es r.nm = some (!(s.1 r.fo)) then [] else [cntI (cheapI rs es) (compl es suf (putV s.1 r.nm (s.1 r.fo), s.2))] := by split <;> rfl
    have partA : ((if endO es r.nm = some (!(s.1 r.fo)) then ([] : List Sta) else [(putV s.1 r.nm (s.1 r.fo), s.2)]).map fun t => cntI (cheapI rs es) (compl es suf t)).sum = if PH = cheapI rs es ∧ tabT rs es suf r.nm (s.1 r.fo) = LL then W * numT rs es suf r.nm (s.1 r.fo) else 0 := by
      by_cases q : endO es r.nm = some (!(s.1 r.fo))
      · rw [if_pos q]
        refine (if_neg fun h => ?_).symm
        refine bad (s.1 r.fo) 0 h.1 (by rw [Int.add_zero]; exact h.2) ?_
        have := (tp r.nm (s.1 r.fo)).1
        unfold pen at this
        rw [if_pos q] at this
        omega
      · rw [if_neg q]
        have hm : (putV s.1 r.nm (s.1 r.fo), s.2) ∈ nextS es r s := mem_next.mpr (.inl ⟨q, rfl⟩)
        have h1 := one (s.1 r.fo) 0 (by rw [Int.add_zero]; exact goodT _ hm) (Int.le_refl _) (by omega)
        rw [Int.add_zero, Int.add_zero] at h1
        rw [List.map_singleton, List.sum_singleton, h1]
    have partB : ((match r.pr with | none => ([] : List Sta) | some p => if endO es r.nm = some (s.1 r.fo) then [] else [(putV s.1 r.nm (!(s.1 r.fo)), s.2 + p)]).map fun t => cntI (cheapI rs es) (compl es suf t)).sum = if PH = cheapI rs es ∧ tabT rs es suf r.nm (!(s.1 r.fo)) + stepR rs r = LL then W * numT rs es suf r.nm (!(s.1 r.fo)) else 0 := by
      have t0 := (tp r.nm (!(s.1 r.fo))).2
      cases c : r.pr with
      | none =>
        refine (if_neg fun h => ?_).symm
        refine bad (!(s.1 r.fo)) (stepR rs r) h.1 h.2 ?_
        have : stepR rs r = endlessI rs := by unfold stepR; rw [c]; rfl
        omega
      | some p =>
        have es' : stepR rs r = p := by unfold stepR; rw [c]; rfl
        show (((if endO es r.nm = some (s.1 r.fo) then ([] : List Sta) else [(putV s.1 r.nm (!(s.1 r.fo)), s.2 + p)]).map fun t => cntI (cheapI rs es) (compl es suf t)).sum) = _
        by_cases q : endO es r.nm = some (s.1 r.fo)
        · rw [if_pos q]
          refine (if_neg fun h => ?_).symm
          refine bad (!(s.1 r.fo)) (stepR rs r) h.1 h.2 ?_
          have := (tp r.nm (!(s.1 r.fo))).1
          unfold pen at this
          rw [Bool.not_not, if_pos q] at this
          omega
        · rw [if_neg q]
          have hm : (putV s.1 r.nm (!(s.1 r.fo)), s.2 + p) ∈ nextS es r s := mem_next.mpr (.inr ⟨p, c, q, rfl⟩)
          have h1 := one (!(s.1 r.fo)) p (goodT _ hm) (by omega) (by omega)
          rw [List.map_singleton, List.sum_singleton, h1, es']
    have eN : nextS es r s = (if endO es r.nm = some (!(s.1 r.fo)) then ([] : List Sta) else [(putV s.1 r.nm (s.1 r.fo), s.2)]) ++ (match r.pr with | none => ([] : List Sta) | some p => if endO es r.nm = some (s.1 r.fo) then [] else [(putV s.1 r.nm (!(s.1 r.fo)), s.2 + p)]) := rfl
    rw [eN, List.map_append, List.sum_append, partA, partB]
    unfold manyI
    rw [hL]
    by_cases q : PH = cheapI rs es
    · rw [if_pos q, Int.mul_add]
      congr 1
      · by_cases k : tabT rs es suf r.nm (s.1 r.fo) = LL
        · rw [if_pos ⟨q, k⟩, if_pos k]
        · rw [if_neg fun h => k h.2, if_neg k, Int.mul_zero]
      · by_cases k : tabT rs es suf r.nm (!(s.1 r.fo)) + stepR rs r = LL
        · rw [if_pos ⟨q, k⟩, if_pos k]
        · rw [if_neg fun h => k h.2, if_neg k, Int.mul_zero]
    · rw [if_neg q, if_neg fun h => q h.1, if_neg fun h => q h.1]; rfl
/-- the numbers of the first values, taken where they are cheapest, count the cheapest -/
def howI (rs : List Row) (es : Wsh) : Int := (([false, true].filter fun b => decide (tabF rs es "top" b = cheapI rs es)).map fun b => numF rs es "top" b).sum
theorem how_many_eq {rs : List Row} (hv : Valid rs) {es : Wsh} (ok : EndsOk rs es) (ho : OpenE rs es) : cntI (cheapI rs es) (allS es rs) = howI rs es := by
  have hsm := cheap_small hv ok ho
  have e0 : allS es rs = (initS es).flatMap (compl es rs) := fold_flat es rs (initS es)
  rw [e0, cnt_flat]
  unfold initS howI
  rw [List.map_map]
  have one : ∀ b, endO es "top" ≠ some (!b) → cntI (cheapI rs es) (compl es rs ((fun _ => b), 0)) = if tabF rs es "top" b = cheapI rs es then numF rs es "top" b else 0 := fun b hb => by
    have ep : phiS rs es [] rs ((fun _ => b), 0) = tabF rs es "top" b := by
      unfold phiS plc names tabF
      simp
    have el : cheapI rs es ≤ tabF rs es "top" b := by unfold cheapI; cases b <;> omega
    have g0 : GoodS es [] ((fun _ => b), 0) := by
      refine ⟨(fun r hr => by cases hr), fun z hz => ?_, rfl⟩
      rcases mem_plc.mp hz with rfl | hz
      · exact hb
      · cases hz
    have h := cnt_main hv hsm rs [] ((fun _ => b), 0) rfl g0 (Int.le_refl _) (by rw [ep]; exact el)
    rw [h, ep]
    have eq : prodI (plc []) (fun z => numT rs es rs z b) = numF rs es "top" b := by
      show numT rs es rs "top" b * 1 = _
      rw [Int.mul_one]; rfl
    show (if _ then prodI (plc []) (fun z => numT rs es rs z b) else 0) = _
    rw [eq]
  have two : ∀ b, endO es "top" = some (!b) → tabF rs es "top" b ≠ cheapI rs es := fun b hb e => by
    have := (tab_pen hv es rs (fun _ h => h) "top" b).1
    unfold pen at this
    rw [if_pos hb] at this
    have this : endlessI rs ≤ tabF rs es "top" b := this
    omega
  have each : ∀ l : List Bool, (((l.filter fun b => !decide (endO es "top" = some (!b))).map ((fun s => cntI (cheapI rs es) (compl es rs s)) ∘ fun b => ((fun _ => b), 0)))).sum = ((l.filter fun b => decide (tabF rs es "top" b = cheapI rs es)).map fun b => numF rs es "top" b).sum := by
    intro l
    induction l with
    | nil => rfl
    | cons b l ih =>
      by_cases q : endO es "top" = some (!b)
      · rw [List.filter_cons_of_neg (by simp [q]), List.filter_cons_of_neg (by simp [two b q]), ih]
      · rw [List.filter_cons_of_pos (by simp [q]), List.map_cons, List.sum_cons, ih]
        show cntI (cheapI rs es) (compl es rs ((fun _ => b), 0)) + _ = _
        rw [one b q]
        by_cases k : tabF rs es "top" b = cheapI rs es
        · rw [if_pos k, List.filter_cons_of_pos (by simp [k]), List.map_cons, List.sum_cons]
        · rw [if_neg k, List.filter_cons_of_neg (by simp [k]), Int.zero_add]
  exact each [false, true]
end Ts

set_option maxRecDepth 100000
set_option maxHeartbeats 4000000
namespace Ts
open PySem L2
/-! ### what the ways bring is what the cheapest turns cost -/
def PosP (l : List Part) : Prop := ∀ e ∈ l, 1 ≤ e.1
def wP (g : Str → Int) (l : List Part) : Int := (l.map fun e => e.1 * g e.2).sum
def sumP (l : List Part) : Int := (l.map fun e => e.1).sum
def sumW (l : List Way3) : Int := (l.map fun e => e.1).sum
/-- what a way bears of a step: g tells the ends beneath it -/
def bearI (g : Str → Int) (e : Way3) : Int := if g e.2.1 = g e.2.2 then 0 else e.1
def wX (g : Str → Int) (l : List Way3) : Int := (l.map (bearI g)).sum
def G01 (g : Str → Int) : Prop := ∀ x, g x = 0 ∨ g x = 1
theorem sumP_cons (e : Part) (l : List Part) : sumP (e :: l) = e.1 + sumP l := rfl
theorem wP_cons (g : Str → Int) (e : Part) (l : List Part) : wP g (e :: l) = e.1 * g e.2 + wP g l := rfl
theorem sumP_app (l m : List Part) : sumP (l ++ m) = sumP l + sumP m := by unfold sumP; rw [List.map_append, List.sum_append]
theorem wP_app (g : Str → Int) (l m : List Part) : wP g (l ++ m) = wP g l + wP g m := by unfold wP; rw [List.map_append, List.sum_append]
theorem sumW_app (l m : List Way3) : sumW (l ++ m) = sumW l + sumW m := by unfold sumW; rw [List.map_append, List.sum_append]
theorem wX_app (g : Str → Int) (l m : List Way3) : wX g (l ++ m) = wX g l + wX g m := by unfold wX; rw [List.map_append, List.sum_append]
theorem sumP_nn {l : List Part} (h : PosP l) : 0 ≤ sumP l := sum_ge fun e he => by have := h e he; omega
theorem wP_nn {g : Str → Int} (hg : G01 g) {l : List Part} (h : PosP l) : 0 ≤ wP g l := sum_ge fun e he => by
  have := h e he
  rcases hg e.2 with q | q <;> rw [q] <;> omega
theorem wP_le {g : Str → Int} (hg : G01 g) {l : List Part} (h : PosP l) : wP g l ≤ sumP l := sum_le fun e he => by
  have := h e he
  rcases hg e.2 with q | q <;> rw [q] <;> omega
theorem pos_tail {e : Part} {l : List Part} (h : PosP (e :: l)) : PosP l := fun x hx => h x (List.mem_cons_of_mem _ hx)
theorem pos_app {l m : List Part} (h : PosP l) (k : PosP m) : PosP (l ++ m) := fun x hx => (List.mem_append.mp hx).elim (h x) (k x)
theorem shorter_pos {n : Int} {x : Str} {l : List Part} {m : Int} (h : PosP ((n, x) :: l)) : PosP (shorterL ((n, x) :: l) m) := by
  intro e he
  rcases List.mem_append.mp (show e ∈ (if m < n then [(n - m, x)] else []) ++ l from he) with k | k
  · by_cases c : m < n
    · rw [if_pos c] at k
      rw [List.mem_singleton.mp k]
      show 1 ≤ n - m
      omega
    · rw [if_neg c] at k; cases k
  · exact pos_tail h e k
theorem shorter_end {n : Int} {x : Str} {l : List Part} {m : Int} : ∀ e ∈ shorterL ((n, x) :: l) m, ∃ e' ∈ ((n, x) :: l), e'.2 = e.2 := by
  intro e he
  rcases List.mem_append.mp (show e ∈ (if m < n then [(n - m, x)] else []) ++ l from he) with k | k
  · by_cases c : m < n
    · rw [if_pos c] at k
      rw [List.mem_singleton.mp k]
      exact ⟨_, List.mem_cons_self .., rfl⟩
    · rw [if_neg c] at k; cases k
  · exact ⟨e, List.mem_cons_of_mem _ k, rfl⟩
theorem shorter_sum {n : Int} {x : Str} {l : List Part} {m : Int} (h : m ≤ n) : sumP (shorterL ((n, x) :: l) m) = sumP ((n, x) :: l) - m := by
  show sumP ((if m < n then [(n - m, x)] else []) ++ l) = _
  rw [sumP_app, sumP_cons]
  by_cases c : m < n
  · rw [if_pos c]
    show n - m + 0 + sumP l = n + sumP l - m
    omega
  · rw [if_neg c]
    show 0 + sumP l = n + sumP l - m
    omega
theorem shorter_w (g : Str → Int) {n : Int} {x : Str} {l : List Part} {m : Int} (h : m ≤ n) : wP g (shorterL ((n, x) :: l) m) = wP g ((n, x) :: l) - m * g x := by
  show wP g ((if m < n then [(n - m, x)] else []) ++ l) = _
  rw [wP_app, wP_cons]
  by_cases c : m < n
  · rw [if_pos c]
    show (n - m) * g x + 0 + wP g l = n * g x + wP g l - m * g x
    rw [Int.sub_mul]; omega
  · rw [if_neg c]
    have : m = n := by omega
    subst this
    show 0 + wP g l = m * g x + wP g l - m * g x
    omega
structure PairR (o f : List Part) (w : List Way3) (R : List Way3 × List Part × List Part) : Prop where
  one : R.2.1 = [] ∨ R.2.2 = []
  po : PosP R.2.1
  pf : PosP R.2.2
  so : sumW R.1 + sumP R.2.1 = sumW w + sumP o
  sf : sumW R.1 + sumP R.2.2 = sumW w + sumP f
  eo : ∀ e ∈ R.2.1, ∃ e' ∈ o, e'.2 = e.2
  ef : ∀ e ∈ R.2.2, ∃ e' ∈ f, e'.2 = e.2
  ew : ∀ e ∈ R.1, e ∈ w ∨ (1 ≤ e.1 ∧ (∃ e' ∈ o, e'.2 = e.2.1) ∧ ∃ e' ∈ f, e'.2 = e.2.2)
  wt : ∀ g, G01 g → wX g R.1 + wP g R.2.1 + wP g R.2.2 ≤ wX g w + wP g o + wP g f
theorem pair_r : ∀ (n : Nat) (o f : List Part) (w : List Way3), PosP o → PosP f → o.length + f.length ≤ n → PairR o f w (pairF n o f w)
  | 0, o, f, w, ho, hf, hl => by
    have e1 : o = [] := List.eq_nil_of_length_eq_zero (by omega)
    exact ⟨.inl e1, ho, hf, rfl, rfl, fun e he => ⟨e, he, rfl⟩, fun e he => ⟨e, he, rfl⟩, fun e he => .inl he, fun g _ => Int.le_refl _⟩
  | n + 1, [], f, w, ho, hf, hl => by
    rw [pairF_nil1]
    exact ⟨.inl rfl, ho, hf, rfl, rfl, fun e he => ⟨e, he, rfl⟩, fun e he => ⟨e, he, rfl⟩, fun e he => .inl he, fun g _ => Int.le_refl _⟩
  | n + 1, a :: o, [], w, ho, hf, hl => by
    rw [pairF_nil2]
    exact ⟨.inr rfl, ho, hf, rfl, rfl, fun e he => ⟨e, he, rfl⟩, fun e he => ⟨e, he, rfl⟩, fun e he => .inl he, fun g _ => Int.le_refl _⟩
  | n + 1, (a, x) :: o, (b, y) :: f, w, ho, hf, hl => by
    have a1 : 1 ≤ a := ho (a, x) (List.mem_cons_self ..)
    have b1 : 1 ≤ b := hf (b, y) (List.mem_cons_self ..)
    have m1 : min a b ≤ a := by omega
    have m2 : min a b ≤ b := by omega
    have ih := pair_r n (shorterL ((a, x) :: o) (min a b)) (shorterL ((b, y) :: f) (min a b)) (w ++ [(min a b, x, y)]) (shorter_pos ho) (shorter_pos hf) (by have := shorter_two a b x y o f; omega)
    show PairR _ _ w (pairF n (shorterL ((a, x) :: o) (min a b)) (shorterL ((b, y) :: f) (min a b)) (w ++ [(min a b, x, y)]))
    generalize pairF n (shorterL ((a, x) :: o) (min a b)) (shorterL ((b, y) :: f) (min a b)) (w ++ [(min a b, x, y)]) = R at ih
    obtain ⟨h1, h2, h3, h4, h5, h6, h7, h8, h9⟩ := ih
    have sw : sumW (w ++ [(min a b, x, y)]) = sumW w + min a b := by rw [sumW_app]; show _ + (min a b + 0) = _; omega
    refine ⟨h1, h2, h3, by rw [h4, sw, shorter_sum m1]; omega, by rw [h5, sw, shorter_sum m2]; omega, fun e he => ?_, fun e he => ?_, fun e he => ?_, fun g hg => ?_⟩
    · obtain ⟨e', k1, k2⟩ := h6 e he
      obtain ⟨e2, k3, k4⟩ := shorter_end e' k1
      exact ⟨e2, k3, k4.trans k2⟩
    · obtain ⟨e', k1, k2⟩ := h7 e he
      obtain ⟨e2, k3, k4⟩ := shorter_end e' k1
      exact ⟨e2, k3, k4.trans k2⟩
    · rcases h8 e he with k | ⟨k1, ⟨e1, k2, k3⟩, ⟨e2, k4, k5⟩⟩
      · rcases List.mem_append.mp k with k | k
        · exact .inl k
        · rw [List.mem_singleton.mp k]
          exact .inr ⟨by show 1 ≤ min a b; omega, ⟨_, List.mem_cons_self .., rfl⟩, ⟨_, List.mem_cons_self .., rfl⟩⟩
      · obtain ⟨e3, k6, k7⟩ := shorter_end e1 k2
        obtain ⟨e4, k8, k9⟩ := shorter_end e2 k4
        exact .inr ⟨k1, ⟨e3, k6, k7.trans k3⟩, ⟨e4, k8, k9.trans k5⟩⟩
    · have := h9 g hg
      rw [wX_app, shorter_w g m1, shorter_w g m2] at this
      have ex : wX g [(min a b, x, y)] = (if g x = g y then 0 else min a b) + 0 := rfl
      rw [ex] at this
      rcases hg x with q1 | q1 <;> rcases hg y with q2 | q2 <;> rw [q1, q2] at this <;> simp at this <;> omega
theorem let_pos : ∀ {l : List Part} {p : Int}, PosP (letL l p)
  | [], _ => fun e he => by cases he
  | (a, x) :: l, p => fun e he => by
    rcases List.mem_append.mp (show e ∈ (if 0 < min a p then [(min a p, x)] else []) ++ letL l (p - min a p) from he) with k | k
    · by_cases c : 0 < min a p
      · rw [if_pos c] at k
        rw [List.mem_singleton.mp k]
        exact c
      · rw [if_neg c] at k; cases k
    · exact let_pos e k
theorem let_end : ∀ {l : List Part} {p : Int}, ∀ e ∈ letL l p, ∃ e' ∈ l, e'.2 = e.2
  | [], _, e, he => by cases he
  | (a, x) :: l, p, e, he => by
    rcases List.mem_append.mp (show e ∈ (if 0 < min a p then [(min a p, x)] else []) ++ letL l (p - min a p) from he) with k | k
    · by_cases c : 0 < min a p
      · rw [if_pos c] at k
        rw [List.mem_singleton.mp k]
        exact ⟨_, List.mem_cons_self .., rfl⟩
      · rw [if_neg c] at k; cases k
    · obtain ⟨e', h1, h2⟩ := let_end e k
      exact ⟨e', List.mem_cons_of_mem _ h1, h2⟩
theorem let_sum : ∀ {l : List Part} {p : Int}, PosP l → 0 ≤ p → sumP (letL l p) = min (sumP l) p
  | [], p, _, hp => by show (0 : Int) = min 0 p; omega
  | (a, x) :: l, p, h, hp => by
    have a1 : 1 ≤ a := h (a, x) (List.mem_cons_self ..)
    have ih := let_sum (l := l) (p := p - min a p) (pos_tail h) (by omega)
    have nn := sumP_nn (pos_tail h)
    show sumP ((if 0 < min a p then [(min a p, x)] else []) ++ letL l (p - min a p)) = _
    rw [sumP_app, ih, sumP_cons]
    by_cases c : 0 < min a p
    · rw [if_pos c]
      show min a p + 0 + _ = min (a + sumP l) p
      omega
    · rw [if_neg c]
      show 0 + _ = min (a + sumP l) p
      omega
theorem let_w {g : Str → Int} (hg : G01 g) : ∀ {l : List Part} {p : Int}, PosP l → 0 ≤ p → wP g (letL l p) ≤ wP g l
  | [], p, _, hp => Int.le_refl _
  | (a, x) :: l, p, h, hp => by
    have a1 : 1 ≤ a := h (a, x) (List.mem_cons_self ..)
    have ih := let_w hg (l := l) (p := p - min a p) (pos_tail h) (by omega)
    show wP g ((if 0 < min a p then [(min a p, x)] else []) ++ letL l (p - min a p)) ≤ _
    rw [wP_app, wP_cons]
    by_cases c : 0 < min a p
    · rw [if_pos c]
      show min a p * g x + 0 + _ ≤ a * g x + wP g l
      rcases hg x with q | q <;> rw [q] <;> omega
    · rw [if_neg c]
      show 0 + _ ≤ a * g x + wP g l
      rcases hg x with q | q <;> rw [q] <;> omega
end Ts

set_option maxRecDepth 100000
set_option maxHeartbeats 4000000
namespace L2
open PySem PySem.Spec PyProof.Rows
/-! ### == of any thing and a text; != of lists of lists of one and the same thing; list.count of texts -/
theorem dict_eq_no_str (l : Addr) (o : Obj) (b : Str) (u : Tok) :
    Meets (Builtin.«dict.__eq__» ⟨[.ref l, .str b u], []⟩) (fun _ R s => s.heap.get? l = some o ∧ o.cls = .type "dict" ∧ R (.ok (.ret .notImplemented)) s) :=
  .of_wp fun prog w A R s h => by
    obtain ⟨hp, g, d, tk, os⟩ := s
    obtain ⟨hl, hc, h⟩ := h
    have f1 := F.sub_str_dict
    wp_walk
    exact ⟨_, rfl, h⟩
theorem str_eq_no_dict (b : Str) (u : Tok) (l : Addr) (c : Value) (es : Array DictEntry) (ep : Nat) (dd : Option Addr) (sl : Array (Option Value)) :
    Meets (Builtin.«str.__eq__» ⟨[.str b u, .ref l], []⟩) (fun _ R s => s.heap.get? l = some { cls := c, dict := dd, data := .dict es ep, slots := sl } ∧ R (.ok (.ret .notImplemented)) s) :=
  .of_wp fun prog w A R s h => by
    obtain ⟨hp, g, d, tk, os⟩ := s
    obtain ⟨hl, h⟩ := h
    wp_walk using wpAny_load hl
    exact ⟨_, rfl, h⟩
theorem rc_dict_str {A : Around} {s : Shared} {l : Addr} {es : Array DictEntry} {ep : Nat} {dd : Option Addr} {sl : Array (Option Value)} (b : Str) (u : Tok) (ho : s.heap.get? l = some { cls := .type "dict", dict := dd, data := .dict es ep, slots := sl }) (hu : A.units < cLine) : SeqAt.RcAt A s (.ref l) (.str b u) false := fun prog w E Q h =>
  SeqAt.rc_eq_decline_or (k := false) ⟨_, ho, rfl⟩ (typeIs_str s b u) (by decide) F.sub_str_dict F.slot_dict_eq F.slot_str_eq_refl
    (fun _ hq => call_meets F.slot_dict_eq ⟨_, ho, rfl⟩ F.entry_dict_eq (F.args_dict_eq_2 _ _) (dict_eq_no_str l _ b u) ⟨ho, rfl, hq⟩)
    (fun _ hq => call_meets F.slot_str_eq_refl (typeIs_str s b u) F.entry_str_eq (F.args_str_eq_2 _ _) (str_eq_no_dict b u l (.type "dict") es ep dd sl) ⟨ho, hq⟩)
    (fun _ hq => wpAny_of_eq (rfl : isSame (.ref l) (.str b u) = pure false) hq) (.inr hu) h
/-- a thing that is no text -/
def OddV (K : PySem.W.Frag) (H : Hp) (x : V) : Prop := x = .non ∨ (∃ i, x = .int i) ∨ (∃ b, x = .bl b) ∨ (∃ a xs, x = .ref a ∧ SqL K H a xs) ∨ (∃ a xs, x = .ref a ∧ SqT K H a xs) ∨ ∃ a kvs, x = .ref a ∧ H a = some (.dK kvs)
section
variable {X : Cx}
/-- == of any thing and a text -/
def rEqOdd (K : PySem.W.Frag) : R2 := fun x y H Q => ∃ z, y = .str z ∧ ((∃ z', x = .str z' ∧ Q (.bl (decide (z' = z))) H) ∨ (OddV K H x ∧ Q (.bl false) H))
theorem op_eqOdd (hu : X.A.units < cLine) : OpR X (compareOp .Eq) (rEqOdd X.K) := by
  intro pins s σ H x y v u Q I rx ry h
  obtain ⟨z, rfl, h⟩ := h
  obtain ⟨t2, rfl⟩ := ry
  rcases h with ⟨z', rfl, q⟩ | ⟨rfl | ⟨i, rfl⟩ | ⟨b, rfl⟩ | ⟨a, xs, rfl, ha⟩ | ⟨a, xs, rfl, ha⟩ | ⟨a, kvs, rfl, ha⟩, q⟩
  · obtain ⟨t, rfl⟩ := rx
    refine SeqAt.RcAt.str_str z' t z t2 _ _ _ _ ⟨.bl _, H, I, ?_, q⟩
    show Value.bool (z' == z) = Value.bool (decide (z' = z))
    rw [Bool.eq_iff_iff.mpr (show (z' == z) = true ↔ decide (z' = z) = true by simp)]
  · cases rx
    exact SeqAt.RcAt.none_str z t2 _ _ _ _ ⟨.bl false, H, I, rfl, q⟩
  · obtain ⟨t, rfl⟩ := rx
    exact SeqAt.RcAt.int_str i t z t2 _ _ _ _ ⟨.bl false, H, I, rfl, q⟩
  · cases rx
    exact SeqAt.RcAt.bool_str b z t2 _ _ _ _ ⟨.bl false, H, I, rfl, q⟩
  · cases rx
    obtain ⟨its, r1, p1, _⟩ := I.list ha
    exact SeqAt.RcAt.list_str z t2 p1.isList hu _ _ _ _ ⟨.bl false, H, I, rfl, q⟩
  · cases rx
    obtain ⟨its, r1, p1, _⟩ := I.tuple ha
    exact SeqAt.RcAt.tuple_str z t2 p1 hu _ _ _ _ ⟨.bl false, H, I, rfl, q⟩
  · cases rx
    obtain ⟨_, _, vs, _, dd⟩ := (show ObjOk X.prog X.w H s.heap a (.dK kvs) from I.hok a _ ha)
    obtain ⟨⟨cls, dd, data, sl⟩, es, ep, ho, hx, hd, _⟩ := dd
    obtain ⟨h1, h2⟩ := hx
    simp only at h1 hd
    subst h1 hd
    exact rc_dict_str z t2 ho hu _ _ _ _ ⟨.bl false, H, I, rfl, q⟩
/-- != of lists of lists of one and the same thing each -/
def rNeLL (K : PySem.W.Frag) : R2 := fun x y H Q => ∃ (a b : Addr) (as bs : List Addr) (u : V), x = .ref a ∧ y = .ref b ∧ SqL K H a (as.map V.ref) ∧ SqL K H b (bs.map V.ref) ∧ as.length = bs.length ∧ (∀ p ∈ as, SqL K H p [u]) ∧ (∀ p ∈ bs, SqL K H p [u]) ∧ (flatB u = true ∨ ∃ c, u = .ref c) ∧ Q (.bl false) H
theorem op_neLL (hu : X.A.units + 64 < cLine) : OpR X (compareOp .NotEq) (rNeLL X.K) := by
  intro pins s σ H x y v w Q I rx ry h
  obtain ⟨a, b, as, bs, u, rfl, rfl, ha, hb, hl, hA, hB, hu2, q⟩ := h
  cases (show v = Value.ref a from rx)
  cases (show w = Value.ref b from ry)
  obtain ⟨us, r1, p1, _⟩ := I.list ha
  obtain ⟨ws, r2, p2, _⟩ := I.list hb
  have e1 : us.length = as.length := by have := r1.length; rw [List.length_map] at this; exact this.symm
  have e2 : ws.length = bs.length := by have := r2.length; rw [List.length_map] at this; exact this.symm
  have at_ : ∀ {cs : List Addr} {zs : List Value}, Vals (cs.map V.ref) zs → ∀ (j : Nat) (h : j < zs.length), ∃ c ∈ cs, zs[j] = Value.ref c := fun {cs zs} r j h => by
    have e : zs.length = cs.length := by have := r.length; rw [List.length_map] at this; exact this.symm
    obtain ⟨z, hz, rz⟩ := Vals.get (i := j) (x := V.ref (cs[j]'(by omega))) r (by rw [List.getElem?_map, List.getElem?_eq_getElem (by omega)]; rfl)
    rw [List.getElem?_eq_getElem h] at hz
    cases hz
    exact ⟨_, List.getElem_mem _, rz⟩
  have one : ∀ {p : Addr}, SqL X.K H p [u] → ∃ z : Value, RelV u z ∧ s.heap.IsList p #[z] := fun {p} h => by
    obtain ⟨zs, r, pl, _⟩ := I.list h
    cases r with
    | cons r1 r2 => cases r2; exact ⟨_, r1, pl.isList⟩
  refine SeqAt.RcNeAt.lists p1.isList p2.isList (by rw [List.size_toArray, List.size_toArray, e1, e2, hl]) (by omega) (e := fun _ => true) (fun j h1 h2 => ?_) _ _ _ _ ?_
  · obtain ⟨c, hc, ec⟩ := at_ r1 j (by simpa using h1)
    obtain ⟨d, hd, ed⟩ := at_ r2 j (by simpa using h2)
    have ec' : us.toArray[j] = Value.ref c := by simpa using ec
    have ed' : ws.toArray[j] = Value.ref d := by simpa using ed
    rw [ec', ed']
    by_cases e : c = d
    · rw [e]; exact SeqAt.EqAt.same _
    · obtain ⟨z1, k1, l1⟩ := one (hA c hc)
      obtain ⟨z2, k2, l2⟩ := one (hB d hd)
      refine SeqAt.EqAt.of_refs e ?_
      have := SeqAt.RcAt.lists (A := X.A.in1) (e := fun _ => true) l1 l2 rfl (by show X.A.units + 1 < cLine; omega) (fun i h3 h4 => by
        have i0 : i = 0 := by
          have : (#[z1] : Array Value).size = 1 := rfl
          omega
        subst i0
        show SeqAt.EqAt _ s z1 z2 true
        rcases hu2 with f | ⟨c', rfl⟩
        · exact eqAt_same k1 k2 f
        · cases (show z1 = Value.ref c' from k1)
          cases (show z2 = Value.ref c' from k2)
          exact SeqAt.EqAt.same _)
      exact this
  · rw [show ((List.range us.toArray.size).all fun _ => true) = true from List.all_eq_true.mpr fun _ _ => rfl]
    exact ⟨.bl false, H, I, rfl, q⟩
end
section
variable {X : Cx}
def eqs (k : Str) : Value → Bool
  | .str z _ => z == k
  | _ => false
theorem strs_ofV : ∀ {ns : List Str} {us : List Value}, Vals (ns.map V.str) us → ∀ u ∈ us, ∃ z t, u = .str z t
  | [], _, h, u, hu => by cases h; cases hu
  | n :: ns, _, h, u, hu => by
    cases h with
    | cons r1 r2 =>
      obtain ⟨t, rfl⟩ := r1
      rcases List.mem_cons.mp hu with rfl | hu
      · exact ⟨n, t, rfl⟩
      · exact strs_ofV r2 u hu
theorem eqs_count (k : Str) : ∀ {ns : List Str} {us : List Value}, Vals (ns.map V.str) us → us.countP (eqs k) = ns.count k
  | [], _, h => by cases h; rfl
  | n :: ns, _, h => by
    cases h with
    | cons r1 r2 =>
      obtain ⟨t, rfl⟩ := r1
      rw [List.countP_cons, List.count_cons, eqs_count k r2]
      rfl
def rCntS (K : PySem.W.Frag) : V → List V → Hp → VK → Prop := fun x xs H Q => ∃ (p : Addr) (ns : List Str) (k : Str), x = .ref p ∧ xs = [.str k] ∧ SqL K H p (ns.map V.str) ∧ Q (.int (ns.count k : Nat)) H
theorem mt_scount : MtR X "list.count" (rCntS X.K) := by
  intro pins s σ H x xs v us Q I rx rxs h
  obtain ⟨p, ns, k, rfl, rfl, hs, q⟩ := h
  cases rx
  obtain ⟨u, rfl, ru⟩ := rxs.one
  obtain ⟨t, rfl⟩ := ru
  obtain ⟨its, rv, ⟨⟨cls, dd, data, sl⟩, n, ho, hc, hdn, hd⟩, hlen⟩ := I.list hs
  simp only at hc hd
  subst hc hd
  refine call_meets PySem.F.slot_list_count ⟨_, ho, rfl⟩ PySem.F.entry_list_count (PySem.F.args_list_count_2 _ _)
    (SeqAt.list_countAt p its.toArray n dd sl (.str k t) (eqs k)) ⟨ho, fun y hy => ?_, ?_⟩
  · obtain ⟨z, t', rfl⟩ := strs_ofV rv y (by simpa using hy)
    exact SeqAt.EqAt.str_str z t' k t
  have ec : its.toArray.toList.countP (eqs k) = ns.count k := eqs_count k rv
  refine ⟨.int (ns.count k : Nat), H, I.tok _, ⟨s.toks, ?_⟩, q⟩
  show Value.int ((its.toArray.toList.countP (eqs k) : Nat) : Int) s.toks = Value.int ((ns.count k : Nat) : Int) s.toks
  rw [ec]
end
end L2

set_option maxRecDepth 100000
set_option maxHeartbeats 4000000
namespace Ts
open PySem L2
/-! ### what a tree refuses -/
def OddT (K : PySem.W.Frag) (H : Hp) (x : V) : Prop := OddV K H x ∧ Other K H x (.type "str")
/-- no box, no place -/
def OddN (K : PySem.W.Frag) (H : Hp) (rs : List Row) (x : V) : Prop := (∃ z : Str, x = .str z ∧ z ∉ names rs) ∨ OddT K H x
def OddP (K : PySem.W.Frag) (H : Hp) (rs : List Row) (x : V) : Prop := (∃ z : Str, x = .str z ∧ z ≠ ("top" : Str) ∧ z ∉ names rs) ∨ OddT K H x
def spRef (K : PySem.W.Frag) (C CN : Addr) (Od : PySem.W.Frag → Hp → List Row → V → Prop) : Sp := fun vs H Q E => ∃ (t : Addr) (x : V) (rs : List Row), vs = [.ref t, x] ∧ TreeAt C H t rs ∧ Od K H rs x ∧ ∀ d H', H d = none → Same H H' → H' d = some (.xd [("box", x)]) → E (.ref CN) (some d) H'
def spIsPlaceX (K : PySem.W.Frag) (C : Addr) : Sp := fun vs H Q _ => ∃ (t : Addr) (x : V) (rs : List Row), vs = [.ref t, x] ∧ TreeAt C H t rs ∧ OddP K H rs x ∧ Q (.bl false) H
section
variable {P : Program} {w : World} {K : PySem.W.Frag} {mg : Str → Option Value} {base : Heap} {C CN : Addr}
theorem odd_contains {H : Hp} {t : Addr} {rs : List Row} {x : V} {Q : VK} {E : XK} (ht : TreeAt C H t rs) (h : OddN K H rs x) (k : Q (.bl false) H) : spContains K C [.ref t, x] H Q E := by
  rcases h with ⟨z, rfl, hz⟩ | ⟨_, ho⟩
  · refine ⟨t, _, rs, rfl, ht, .inl ⟨z, rfl, ?_⟩⟩
    rw [decide_eq_false hz]; exact k
  · exact ⟨t, _, rs, rfl, ht, .inr ⟨ho, k⟩⟩
theorem OddP.n {H : Hp} {rs : List Row} {x : V} (h : OddP K H rs x) : OddN K H rs x := h.imp (fun ⟨z, e, _, hz⟩ => ⟨z, e, hz⟩) id
theorem ok_check_boxX {fI : Addr} {fdI : FuncData} (D : DefAt K mg "check_box" s_check_box ["tree", "thing"]) (M : MethAt K C "__contains__" "Tree.__contains__" s_Tree_contains ["self", "x"]) (B : TxB mg) (T : TxT K mg C)
    (TN : ErrT K mg CN "NoBox" "box") (iC : PySem.W.findIn K (.ref CN) "__init__" = some (some (.ref fI))) (tI : PySem.W.typeIn K (.ref fI) = some (.type "function")) (GI : FnOk P w K mg base CX0 2 fI fdI ["self", "box"] (spErr1 CN "box")) (bI : Binds K fdI ["self", "box"] []) :
    FnOk P w K mg base (L2.CX P w) 4 D.f D.fd ["tree", "thing"] (spRef K C CN OddN) := by
  have G : FnOk P w K mg base CX0 2 M.f M.fd ["self", "x"] (spContains K C) := ok_Tree_contains M.F B T
  refine D.F.okX sc_check_box (fun vs H Q E h => ?_) (fun cdv A outer s H vs Q E hr h => ?_)
  · obtain ⟨t, x, rs, rfl, _⟩ := h
    rfl
  · obtain ⟨t, x, rs, rfl, ht, hx, hE⟩ := h
    obtain ⟨dx, q, f, k, p, qs, h1, h2⟩ := id ht.ex
    have hr2 : Room 2 _ := hr.mono (by decide)
    refine ⟨_, pss_one (ps_if (pt_cmpR (op_notinC G M.m hr2 M.b pass0) (pv 1) (pv 0) (by rfl)) (pss_one (ps_raise rfl (takes_of rfl rfl rfl rfl) (pmk_oex TN.O iC tI GI hr bI .nil pass0 rfl TN.g (by exact pa_cons (pv 1) pa_nil)))) pss_nil), ?_⟩
    refine ⟨_, rfl, _, rfl, t, dx, _, rfl, h1, odd_contains ht hx ⟨_, rfl, _, rfl, ?_⟩⟩
    refine iteT ?_
    exact ⟨_, rfl, rd_err1 fun d hd => hE d _ hd (Same.new hd) upd_same⟩
theorem ok_is_placeX (D : DefAt K mg "is_place" s_is_place ["tree", "thing"]) (M : MethAt K C "__contains__" "Tree.__contains__" s_Tree_contains ["self", "x"]) (B : TxB mg) (TC : TxC K mg) (T : TxT K mg C) : FnOk P w K mg base CX0 3 D.f D.fd ["tree", "thing"] (spIsPlaceX K C) := by
  have G : FnOk P w K mg base CX0 2 M.f M.fd ["self", "x"] (spContains K C) := ok_Tree_contains M.F B T
  obtain ⟨t1, gT⟩ := TC.top
  refine D.F.ok sc_is_place (fun vs H Q E h => ?_) (fun cdv A outer s H vs Q E hr h => ?_)
  · obtain ⟨t, z, rs, rfl, _⟩ := h
    rfl
  · obtain ⟨t, x, rs, rfl, ht, hx, hq⟩ := h
    have h64 := hr.units
    obtain ⟨dx, q, f, k, p, qs, h1, h2⟩ := id ht.ex
    refine ⟨_, pss_one (ps_ret (pe_or (pe_cmpR (op_eqOdd (Nat.lt_of_le_of_lt (Nat.le_add_right _ _) h64)) (pv 1) (pe_glob (by rfl) gT (v := .str ("top" : Str)) ⟨_, rfl⟩) (nomark _)) (pe_one (pe_cmpR (op_inC G M.m hr M.b pass0) (pv 1) (pv 0) (by rfl))))), ?_⟩
    have fin : ∃ b, V.bl false = V.bl b ∧ if b = true then Q (V.bl true) H else tOp (rInC C (spContains K C) E0) (tVar 1) (tVar 0) (L2.start ["tree", "thing"] [V.ref t, x]) H Q := by
      refine ⟨false, rfl, iteF ?_⟩
      exact ⟨_, rfl, _, rfl, t, dx, _, rfl, h1, odd_contains ht hx.n ⟨_, rfl, hq⟩⟩
    refine ⟨_, rfl, ("top" : Str), rfl, ?_⟩
    rcases hx with ⟨z, rfl, hz1, hz2⟩ | ⟨ho, _⟩
    · refine .inl ⟨z, rfl, ?_⟩
      rw [decide_eq_false hz1]
      exact fin
    · exact .inr ⟨ho, fin⟩
theorem ok_check_placeX {fI : Addr} {fdI : FuncData} (D : DefAt K mg "check_place" s_check_place ["tree", "thing"]) (Db : DefAt K mg "is_place" s_is_place ["tree", "thing"]) (Gb : FnOk P w K mg base CX0 3 Db.f Db.fd ["tree", "thing"] (spIsPlaceX K C))
    (TN : ErrT K mg CN "NoBox" "box") (iC : PySem.W.findIn K (.ref CN) "__init__" = some (some (.ref fI))) (tI : PySem.W.typeIn K (.ref fI) = some (.type "function")) (GI : FnOk P w K mg base CX0 2 fI fdI ["self", "box"] (spErr1 CN "box")) (bI : Binds K fdI ["self", "box"] []) :
    FnOk P w K mg base (L2.CX P w) 4 D.f D.fd ["tree", "thing"] (spRef K C CN OddP) := by
  refine D.F.okX sc_check_place (fun vs H Q E h => ?_) (fun cdv A outer s H vs Q E hr h => ?_)
  · obtain ⟨t, x, rs, rfl, _⟩ := h
    rfl
  · obtain ⟨t, x, rs, rfl, ht, hx, hE⟩ := h
    refine ⟨_, pss_one (ps_if (pt_not (pt_val (pe_call Gb hr rfl Db.g Db.F.kp Db.b .nil pass0 (pa_cons (pv 0) (pa_cons (pv 1) pa_nil))))) (pss_one (ps_raise rfl (takes_of rfl rfl rfl rfl) (pmk_oex TN.O iC tI GI hr bI .nil pass0 rfl TN.g (by exact pa_cons (pv 1) pa_nil)))) pss_nil), ?_⟩
    refine ⟨_, rfl, _, rfl, t, x, rs, rfl, ht, hx, _, rfl, iteT ?_⟩
    exact ⟨_, rfl, rd_err1 fun d hd => hE d _ hd (Same.new hd) upd_same⟩
theorem ok_folderX {f : Addr} {fd : FuncData} (F : Fun K "folder" "Tree.folder" s_Tree_folder f fd) (Db : DefAt K mg "check_box" s_check_box ["tree", "thing"]) (Gb : FnOk P w K mg base (L2.CX P w) 4 Db.f Db.fd ["tree", "thing"] (spRef K C CN OddN)) : FnOk P w K mg base (L2.CX P w) 5 f fd ["self", "box"] (spRef K C CN OddN) := by
  refine F.okX sc_Tree_folder (fun vs H Q E h => ?_) (fun cdv A outer s H vs Q E hr h => ?_)
  · obtain ⟨t, x, rs, rfl, _⟩ := h
    rfl
  · obtain ⟨t, x, rs, rfl, ht, hx, hE⟩ := h
    refine ⟨_, pss_cons (ps_expr (pe_call Gb hr rfl Db.g Db.F.kp Db.b .nil (passes_call (takes_of rfl rfl rfl rfl) (fun _ _ _ _ h => h)) (pa_cons (pv 0) (pa_cons (pv 1) pa_nil)))) pss_never, ?_⟩
    exact ⟨_, rfl, _, rfl, t, x, rs, rfl, ht, hx, hE⟩
theorem ok_kindX {f : Addr} {fd : FuncData} (F : Fun K "kind" "Tree.kind" s_Tree_kind f fd) (Db : DefAt K mg "check_box" s_check_box ["tree", "thing"]) (Gb : FnOk P w K mg base (L2.CX P w) 4 Db.f Db.fd ["tree", "thing"] (spRef K C CN OddN)) : FnOk P w K mg base (L2.CX P w) 5 f fd ["self", "box"] (spRef K C CN OddN) := by
  refine F.okX sc_Tree_kind (fun vs H Q E h => ?_) (fun cdv A outer s H vs Q E hr h => ?_)
  · obtain ⟨t, x, rs, rfl, _⟩ := h
    rfl
  · obtain ⟨t, x, rs, rfl, ht, hx, hE⟩ := h
    refine ⟨_, pss_cons (ps_expr (pe_call Gb hr rfl Db.g Db.F.kp Db.b .nil (passes_call (takes_of rfl rfl rfl rfl) (fun _ _ _ _ h => h)) (pa_cons (pv 0) (pa_cons (pv 1) pa_nil)))) pss_never, ?_⟩
    exact ⟨_, rfl, _, rfl, t, x, rs, rfl, ht, hx, hE⟩
theorem ok_priceX {f : Addr} {fd : FuncData} (F : Fun K "price" "Tree.price" s_Tree_price f fd) (Db : DefAt K mg "check_box" s_check_box ["tree", "thing"]) (Gb : FnOk P w K mg base (L2.CX P w) 4 Db.f Db.fd ["tree", "thing"] (spRef K C CN OddN)) : FnOk P w K mg base (L2.CX P w) 5 f fd ["self", "box"] (spRef K C CN OddN) := by
  refine F.okX sc_Tree_price (fun vs H Q E h => ?_) (fun cdv A outer s H vs Q E hr h => ?_)
  · obtain ⟨t, x, rs, rfl, _⟩ := h
    rfl
  · obtain ⟨t, x, rs, rfl, ht, hx, hE⟩ := h
    refine ⟨_, pss_cons (ps_expr (pe_call Gb hr rfl Db.g Db.F.kp Db.b .nil (passes_call (takes_of rfl rfl rfl rfl) (fun _ _ _ _ h => h)) (pa_cons (pv 0) (pa_cons (pv 1) pa_nil)))) pss_never, ?_⟩
    exact ⟨_, rfl, _, rfl, t, x, rs, rfl, ht, hx, hE⟩
theorem ok_belowX {f : Addr} {fd : FuncData} (F : Fun K "below" "Tree.below" s_Tree_below f fd) (Db : DefAt K mg "check_place" s_check_place ["tree", "thing"]) (Gb : FnOk P w K mg base (L2.CX P w) 4 Db.f Db.fd ["tree", "thing"] (spRef K C CN OddP)) : FnOk P w K mg base (L2.CX P w) 5 f fd ["self", "box"] (spRef K C CN OddP) := by
  refine F.okX sc_Tree_below (fun vs H Q E h => ?_) (fun cdv A outer s H vs Q E hr h => ?_)
  · obtain ⟨t, x, rs, rfl, _⟩ := h
    rfl
  · obtain ⟨t, x, rs, rfl, ht, hx, hE⟩ := h
    refine ⟨_, pss_cons (ps_expr (pe_call Gb hr rfl Db.g Db.F.kp Db.b .nil (passes_call (takes_of rfl rfl rfl rfl) (fun _ _ _ _ h => h)) (pa_cons (pv 0) (pa_cons (pv 1) pa_nil)))) pss_never, ?_⟩
    exact ⟨_, rfl, _, rfl, t, x, rs, rfl, ht, hx, hE⟩
end
end Ts

set_option maxRecDepth 100000
set_option maxHeartbeats 4000000
namespace L2
open PySem PySem.Spec PyProof.Rows
/-! ### whether any thing is in a list or tuple of texts -/
theorem rc_str_dict {A : Around} {s : Shared} {l : Addr} {es : Array DictEntry} {ep : Nat} {dd : Option Addr} {sl : Array (Option Value)} (b : Str) (u : Tok) (ho : s.heap.get? l = some { cls := .type "dict", dict := dd, data := .dict es ep, slots := sl }) (hu : A.units < cLine) : SeqAt.RcAt A s (.str b u) (.ref l) false := fun prog w E Q h =>
  SeqAt.rc_eq_decline_or (k := false) (typeIs_str s b u) ⟨_, ho, rfl⟩ (by decide) F.sub_dict_str F.slot_str_eq F.slot_dict_eq_refl
    (fun _ hq => call_meets F.slot_str_eq (typeIs_str s b u) F.entry_str_eq (F.args_str_eq_2 _ _) (str_eq_no_dict b u l (.type "dict") es ep dd sl) ⟨ho, hq⟩)
    (fun _ hq => call_meets F.slot_dict_eq_refl ⟨_, ho, rfl⟩ F.entry_dict_eq (F.args_dict_eq_2 _ _) (dict_eq_no_str l _ b u) ⟨ho, rfl, hq⟩)
    (fun _ hq => wpAny_of_eq (rfl : isSame (.str b u) (.ref l) = pure false) hq) (.inr hu) h
theorem eqAt_str_dict {A : Around} {s : Shared} {l : Addr} {es : Array DictEntry} {ep : Nat} {dd : Option Addr} {sl : Array (Option Value)} (b : Str) (u : Tok) (ho : s.heap.get? l = some { cls := .type "dict", dict := dd, data := .dict es ep, slots := sl }) (hu : A.units < cLine) : SeqAt.EqAt A s (.str b u) (.ref l) false := fun prog w E Q h => by
  unfold eqBool
  refine wpAny_holding (wpAny_ite_split (fun same => absurd (eq_of_beq same) nofun) fun _ => ?_)
  exact wpAny_bind (rc_str_dict b u ho hu prog w E _ (wpAny_truthy_bool h))
section
variable {X : Cx} {pins : List (Addr × Obj)} {σ : St} {H : Hp} {s : Shared}
/-- a text and a thing that is none -/
theorem odd_eqAt (I : Inv X pins σ H s) {A : Around} {x : V} {v : Value} (h : OddV X.K H x) (r : RelV x v) (z : Str) (t : Tok) (hu : A.units < cLine) : SeqAt.EqAt A s (.str z t) v false := by
  rcases h with rfl | ⟨i, rfl⟩ | ⟨b, rfl⟩ | ⟨a, xs, rfl, ha⟩ | ⟨a, xs, rfl, ha⟩ | ⟨a, kvs, rfl, ha⟩
  · cases r
    exact SeqAt.EqAt.str_none z t
  · obtain ⟨t2, rfl⟩ := r
    exact SeqAt.EqAt.str_int z t i t2
  · cases r
    exact SeqAt.EqAt.str_bool z t b
  · cases r
    obtain ⟨its, _, p, _⟩ := I.list ha
    exact SeqAt.EqAt.str_list z t p.isList hu
  · cases r
    obtain ⟨its, _, p, _⟩ := I.tuple ha
    exact SeqAt.EqAt.str_tuple z t p hu
  · cases r
    obtain ⟨_, _, vs, _, dd⟩ := (show ObjOk X.prog X.w H s.heap a (.dK kvs) from I.hok a _ ha)
    obtain ⟨⟨cls, dd, data, sl⟩, es, ep, ho, hx, hd, _⟩ := dd
    obtain ⟨h1, h2⟩ := hx
    simp only at h1 hd
    subst h1 hd
    exact eqAt_str_dict z t ho hu
def eqStr (z : Str) : Value → Bool
  | .str y _ => y == z
  | _ => false
theorem any_eqStr (z : Str) : ∀ {ns : List Str} {us : List Value}, Vals (ns.map V.str) us → us.any (eqStr z) = decide (z ∈ ns)
  | [], _, h => by cases h; rfl
  | n :: ns, _, h => by
    cases h with
    | cons r1 r2 =>
      obtain ⟨t, rfl⟩ := r1
      rw [List.any_cons, any_eqStr z r2]
      show (n == z || decide (z ∈ ns)) = decide (z ∈ n :: ns)
      by_cases e : n = z
      · rw [decide_eq_true (show z ∈ n :: ns from by rw [e]; exact List.mem_cons_self ..), show (n == z) = true from beq_iff_eq.mpr e, Bool.true_or]
      · rw [show (n == z) = false from beq_eq_false_iff_ne.mpr e, Bool.false_or]
        exact decide_eq_decide.mpr ⟨fun h => List.mem_cons_of_mem _ h, fun h => (List.mem_cons.mp h).resolve_left fun q => e q.symm⟩
/-- x in ts, x not in ts -/
def rInOdd (K : PySem.W.Frag) (neg : Bool) : R2 := fun x y H Q => ∃ (p : Addr) (ns : List Str), y = .ref p ∧ (SqL K H p (ns.map V.str) ∨ SqT K H p (ns.map V.str)) ∧ ((∃ z, x = .str z ∧ Q (.bl (neg != decide (z ∈ ns))) H) ∨ (OddV K H x ∧ Q (.bl neg) H))
end
section
variable {X : Cx}
theorem op_inOdd (hu : X.A.units + 1 < cLine) : OpR X (compareOp .In) (rInOdd X.K false) := by
  intro pins s σ H x y v u Q I rx ry h
  obtain ⟨p, ns, rfl, hq, h⟩ := h
  cases ry
  have hu1 : X.A.in1.units < cLine := hu
  rcases h with ⟨z, rfl, q⟩ | ⟨hx, q⟩
  · obtain ⟨t, rfl⟩ := rx
    have q' : Q (.bl (decide (z ∈ ns))) H := by rw [Bool.false_bne] at q; exact q
    rcases hq with hq | hq
    · obtain ⟨its, r, pl, hz⟩ := I.list hq
      refine SeqAt.in_listAt (eqStr z) pl.isList (fun w hw => ?_) ⟨.bl _, H, I, rfl, ?_⟩
      · obtain ⟨z', t', rfl⟩ := strs_ofV r w (by simpa using hw)
        exact SeqAt.EqAt.str_str z' t' z t
      · rw [show its.toArray.any (eqStr z) = its.any (eqStr z) by simp, any_eqStr z r]; exact q'
    · obtain ⟨its, r, pl, hz⟩ := I.tuple hq
      refine SeqAt.in_tupleAt (eqStr z) pl (fun w hw => ?_) ⟨.bl _, H, I, rfl, ?_⟩
      · obtain ⟨z', t', rfl⟩ := strs_ofV r w (by simpa using hw)
        exact SeqAt.EqAt.str_str z' t' z t
      · rw [show its.toArray.any (eqStr z) = its.any (eqStr z) by simp, any_eqStr z r]; exact q'
  · have none_ : ∀ its : List Value, its.toArray.any (fun _ => false) = false := fun its => by simp
    rcases hq with hq | hq
    · obtain ⟨its, r, pl, hz⟩ := I.list hq
      refine SeqAt.in_listAt (fun _ => false) pl.isList (fun w hw => ?_) ⟨.bl _, H, I, rfl, ?_⟩
      · obtain ⟨z', t', rfl⟩ := strs_ofV r w (by simpa using hw)
        exact odd_eqAt I hx rx z' t' hu1
      · rw [none_]; exact q
    · obtain ⟨its, r, pl, hz⟩ := I.tuple hq
      refine SeqAt.in_tupleAt (fun _ => false) pl (fun w hw => ?_) ⟨.bl _, H, I, rfl, ?_⟩
      · obtain ⟨z', t', rfl⟩ := strs_ofV r w (by simpa using hw)
        exact odd_eqAt I hx rx z' t' hu1
      · rw [none_]; exact q
theorem op_notinOdd (hu : X.A.units + 1 < cLine) : OpR X (compareOp .NotIn) (rInOdd X.K true) := by
  intro pins s σ H x y v u Q I rx ry h
  obtain ⟨p, ns, rfl, hq, h⟩ := h
  cases ry
  have hu1 : X.A.in1.units < cLine := hu
  rcases h with ⟨z, rfl, q⟩ | ⟨hx, q⟩
  · obtain ⟨t, rfl⟩ := rx
    have q' : Q (.bl (!decide (z ∈ ns))) H := by rw [Bool.true_bne] at q; exact q
    rcases hq with hq | hq
    · obtain ⟨its, r, pl, hz⟩ := I.list hq
      refine SeqAt.notIn_listAt (eqStr z) pl.isList (fun w hw => ?_) ⟨.bl _, H, I, rfl, ?_⟩
      · obtain ⟨z', t', rfl⟩ := strs_ofV r w (by simpa using hw)
        exact SeqAt.EqAt.str_str z' t' z t
      · rw [show its.toArray.any (eqStr z) = its.any (eqStr z) by simp, any_eqStr z r]; exact q'
    · obtain ⟨its, r, pl, hz⟩ := I.tuple hq
      refine SeqAt.notIn_tupleAt (eqStr z) pl (fun w hw => ?_) ⟨.bl _, H, I, rfl, ?_⟩
      · obtain ⟨z', t', rfl⟩ := strs_ofV r w (by simpa using hw)
        exact SeqAt.EqAt.str_str z' t' z t
      · rw [show its.toArray.any (eqStr z) = its.any (eqStr z) by simp, any_eqStr z r]; exact q'
  · have none_ : ∀ its : List Value, its.toArray.any (fun _ => false) = false := fun its => by simp
    rcases hq with hq | hq
    · obtain ⟨its, r, pl, hz⟩ := I.list hq
      refine SeqAt.notIn_listAt (fun _ => false) pl.isList (fun w hw => ?_) ⟨.bl _, H, I, rfl, ?_⟩
      · obtain ⟨z', t', rfl⟩ := strs_ofV r w (by simpa using hw)
        exact odd_eqAt I hx rx z' t' hu1
      · rw [none_]; exact q
    · obtain ⟨its, r, pl, hz⟩ := I.tuple hq
      refine SeqAt.notIn_tupleAt (fun _ => false) pl (fun w hw => ?_) ⟨.bl _, H, I, rfl, ?_⟩
      · obtain ⟨z', t', rfl⟩ := strs_ofV r w (by simpa using hw)
        exact odd_eqAt I hx rx z' t' hu1
      · rw [none_]; exact q
end
end L2

set_option maxRecDepth 100000
set_option maxHeartbeats 4000000
namespace Ts
open PySem L2
open LamX (ExtN Tabs TabB)
theorem Same.x {H H' : Hp} (s : Same H H') : ExtN H H' := ExtN.of s
theorem TreeAt.ext {C : Addr} {H H' : Hp} {t : Addr} {rs : List Row} (h : TreeAt C H t rs) (s : ExtN H H') : TreeAt C H' t rs := by
  obtain ⟨dx, q, f, k, p, qs, h1, h2, h3, h4, h5, h6⟩ := h.ex
  exact ⟨⟨dx, q, f, k, p, qs, s _ _ h1 nofun, s _ _ h2 nofun, ⟨h3.len, fun i b r hb hr => s _ _ (h3.at_ i b r hb hr) nofun⟩, s _ _ h4 nofun, s _ _ h5 nofun, s _ _ h6 nofun⟩, h.val, h.len⟩
theorem RowsL.ext {H H' : Hp} {p : Addr} {rs : List Row} (h : RowsL H p rs) (s : ExtN H H') : RowsL H' p rs := by
  obtain ⟨as, h1, h2⟩ := h.ex
  exact ⟨as, s _ _ h1 nofun, ⟨h2.len, fun i b r hb hr => s _ _ (h2.at_ i b r hb hr) nofun⟩⟩
/-- a thing that is no text, new -/
def OddH (H : Hp) (x : V) : Prop := x = .non ∨ (∃ i, x = .int i) ∨ (∃ b, x = .bl b) ∨ (∃ a xs, x = .ref a ∧ H a = some (.lst xs)) ∨ (∃ a xs, x = .ref a ∧ H a = some (.tup xs)) ∨ ∃ a kvs, x = .ref a ∧ H a = some (.dK kvs)
theorem OddH.ext {H H' : Hp} {x : V} (h : OddH H x) (s : ExtN H H') : OddH H' x := by
  rcases h with h | h | h | ⟨a, xs, e, h⟩ | ⟨a, xs, e, h⟩ | ⟨a, xs, e, h⟩
  · exact .inl h
  · exact .inr (.inl h)
  · exact .inr (.inr (.inl h))
  · exact .inr (.inr (.inr (.inl ⟨a, xs, e, s _ _ h nofun⟩)))
  · exact .inr (.inr (.inr (.inr (.inl ⟨a, xs, e, s _ _ h nofun⟩))))
  · exact .inr (.inr (.inr (.inr (.inr ⟨a, xs, e, s _ _ h nofun⟩))))
theorem OddH.t {K : PySem.W.Frag} {H : Hp} {x : V} (h : OddH H x) : OddT K H x := by
  rcases h with rfl | ⟨i, rfl⟩ | ⟨b, rfl⟩ | ⟨a, xs, rfl, h⟩ | ⟨a, xs, rfl, h⟩ | ⟨a, xs, rfl, h⟩
  · exact ⟨.inl rfl, _, .base .non, kit_ty (by decide +kernel)⟩
  · exact ⟨.inr (.inl ⟨i, rfl⟩), _, .base (.int i), kit_ty (by decide +kernel)⟩
  · exact ⟨.inr (.inr (.inl ⟨b, rfl⟩)), _, .base (.bl b), kit_ty (by decide +kernel)⟩
  · exact ⟨.inr (.inr (.inr (.inl ⟨a, xs, rfl, SqL.of h⟩))), _, .base (.lst h), kit_ty (by decide +kernel)⟩
  · exact ⟨.inr (.inr (.inr (.inr (.inl ⟨a, xs, rfl, sqT h⟩)))), _, .base (.tup h), kit_ty (by decide +kernel)⟩
  · exact ⟨.inr (.inr (.inr (.inr (.inr ⟨a, xs, rfl, h⟩)))), _, .base (.dK h), kit_ty (by decide +kernel)⟩
def NoBx (H : Hp) (rs : List Row) (x : V) : Prop := (∃ z : Str, x = .str z ∧ z ∉ names rs) ∨ OddH H x
def NoPl (H : Hp) (rs : List Row) (x : V) : Prop := (∃ z : Str, x = .str z ∧ z ≠ ("top" : Str) ∧ z ∉ names rs) ∨ OddH H x
theorem NoBx.ext {H H' : Hp} {rs : List Row} {x : V} (h : NoBx H rs x) (s : ExtN H H') : NoBx H' rs x := h.imp id fun h => h.ext s
theorem NoPl.ext {H H' : Hp} {rs : List Row} {x : V} (h : NoPl H rs x) (s : ExtN H H') : NoPl H' rs x := h.imp id fun h => h.ext s
theorem NoBx.o {K : PySem.W.Frag} {H : Hp} {rs : List Row} {x : V} (h : NoBx H rs x) : OddN K H rs x := h.imp id OddH.t
theorem NoPl.o {K : PySem.W.Frag} {H : Hp} {rs : List Row} {x : V} (h : NoPl H rs x) : OddP K H rs x := h.imp id OddH.t
theorem NoPl.b {H : Hp} {rs : List Row} {x : V} (h : NoPl H rs x) : NoBx H rs x := h.imp (fun ⟨z, e, _, h⟩ => ⟨z, e, h⟩) id
end Ts

set_option maxRecDepth 100000
set_option maxHeartbeats 4000000
namespace Ts
open PySem L2
open LamX (ExtN Tabs TabB)
/-! ### rows of any things -/
def nmB (z : Str) : Bool := !decide (z = ("top" : Str)) && (!decide (8 < z.length) && (Txt.isascii z && (Txt.isalpha z && Txt.islower z)))
def nameB : V → Bool
  | .str z => nmB z
  | _ => false
def inB (l : List Str) : V → Bool
  | .str z => decide (z ∈ l)
  | _ => false
def numB (n : Int) : V → Bool
  | .int i => decide (n ≤ i)
  | _ => false
def prB : V → Bool
  | .non => true
  | x => numB 1 x
def fitB (N F : List Str) : List V → Bool
  | [a, b, c, d] => nameB a && (!inB N a && (inB F b && (inB kinds3 c && prB d)))
  | _ => false
def nmC : List V → Str
  | .str z :: _ => z
  | _ => ""
def foC : List V → Bool
  | [_, _, c, _] => inB ["folder"] c
  | _ => false
/-- a thing in a row -/
def CellV (H : Hp) (x : V) : Prop := (∃ z : Str, x = .str z ∧ z.length ≤ 100) ∨ OddH H x
theorem CellV.ext {H H' : Hp} {x : V} (h : CellV H x) (s : ExtN H H') : CellV H' x := h.imp id fun h => h.ext s
def isS : V → Bool
  | .str _ => true
  | _ => false
def isI : V → Bool
  | .int _ => true
  | .bl _ => true
  | _ => false
def isBl : V → Bool
  | .bl _ => true
  | _ => false
theorem CellV.ty {K : PySem.W.Frag} {H : Hp} {x : V} (h : CellV H x) : ∃ t, TyX K H x t ∧ PySem.W.kitOne K t (.type "str") = some (isS x) ∧ PySem.W.kitOne K t (.type "int") = some (isI x) ∧ PySem.W.kitOne K t (.type "bool") = some (isBl x) := by
  rcases h with ⟨z, rfl, _⟩ | rfl | ⟨i, rfl⟩ | ⟨b, rfl⟩ | ⟨a, xs, rfl, h⟩ | ⟨a, xs, rfl, h⟩ | ⟨a, xs, rfl, h⟩
  · exact ⟨_, .base (.str z), (show PySem.W.kitOne K (.type "str") (.type "str") = some true from kit_ty (by decide +kernel)), (show PySem.W.kitOne K (.type "str") (.type "int") = some false from kit_ty (by decide +kernel)), (show PySem.W.kitOne K (.type "str") (.type "bool") = some false from kit_ty (by decide +kernel))⟩
  · exact ⟨_, .base .non, (show PySem.W.kitOne K (.type "NoneType") (.type "str") = some false from kit_ty (by decide +kernel)), (show PySem.W.kitOne K (.type "NoneType") (.type "int") = some false from kit_ty (by decide +kernel)), (show PySem.W.kitOne K (.type "NoneType") (.type "bool") = some false from kit_ty (by decide +kernel))⟩
  · exact ⟨_, .base (.int i), (show PySem.W.kitOne K (.type "int") (.type "str") = some false from kit_ty (by decide +kernel)), (show PySem.W.kitOne K (.type "int") (.type "int") = some true from kit_ty (by decide +kernel)), (show PySem.W.kitOne K (.type "int") (.type "bool") = some false from kit_ty (by decide +kernel))⟩
  · exact ⟨_, .base (.bl b), (show PySem.W.kitOne K (.type "bool") (.type "str") = some false from kit_ty (by decide +kernel)), (show PySem.W.kitOne K (.type "bool") (.type "int") = some true from kit_ty (by decide +kernel)), (show PySem.W.kitOne K (.type "bool") (.type "bool") = some true from kit_ty (by decide +kernel))⟩
  · exact ⟨_, .base (.lst h), (show PySem.W.kitOne K (.type "list") (.type "str") = some false from kit_ty (by decide +kernel)), (show PySem.W.kitOne K (.type "list") (.type "int") = some false from kit_ty (by decide +kernel)), (show PySem.W.kitOne K (.type "list") (.type "bool") = some false from kit_ty (by decide +kernel))⟩
  · exact ⟨_, .base (.tup h), (show PySem.W.kitOne K (.type "tuple") (.type "str") = some false from kit_ty (by decide +kernel)), (show PySem.W.kitOne K (.type "tuple") (.type "int") = some false from kit_ty (by decide +kernel)), (show PySem.W.kitOne K (.type "tuple") (.type "bool") = some false from kit_ty (by decide +kernel))⟩
  · exact ⟨_, .base (.dK h), (show PySem.W.kitOne K (.type "dict") (.type "str") = some false from kit_ty (by decide +kernel)), (show PySem.W.kitOne K (.type "dict") (.type "int") = some false from kit_ty (by decide +kernel)), (show PySem.W.kitOne K (.type "dict") (.type "bool") = some false from kit_ty (by decide +kernel))⟩
def NoSq (H : Hp) (y : V) : Prop := y = .non ∨ (∃ i, y = .int i) ∨ (∃ z, y = .str z) ∨ ∃ a kvs, y = .ref a ∧ H a = some (.dK kvs)
theorem NoSq.ext {H H' : Hp} {y : V} (h : NoSq H y) (s : ExtN H H') : NoSq H' y := by
  rcases h with h | h | h | ⟨a, kvs, e, h⟩
  · exact .inl h
  · exact .inr (.inl h)
  · exact .inr (.inr (.inl h))
  · exact .inr (.inr (.inr ⟨a, kvs, e, s _ _ h nofun⟩))
theorem kit_noseq {K : PySem.W.Frag} {T : String} (h1 : PySem.W.kitOne K (.type T) (.type "list") = some false) (h2 : PySem.W.kitOne K (.type T) (.type "tuple") = some false) : PySem.W.kitAny K (.type T) [.type "list", .type "tuple"] = some false := kitAny_cons (b := false) h1 (fun _ => kitAny_cons (b := false) h2 (fun _ => rfl) fun e => nomatch e) fun e => nomatch e
theorem NoSq.ty {K : PySem.W.Frag} {H : Hp} {y : V} (h : NoSq H y) : ∃ t, TyX K H y t ∧ PySem.W.kitAny K t [.type "list", .type "tuple"] = some false := by
  rcases h with rfl | ⟨i, rfl⟩ | ⟨z, rfl⟩ | ⟨a, kvs, rfl, h⟩
  · exact ⟨_, .base .non, kit_noseq (kit_ty (by decide +kernel)) (kit_ty (by decide +kernel))⟩
  · exact ⟨_, .base (.int i), kit_noseq (kit_ty (by decide +kernel)) (kit_ty (by decide +kernel))⟩
  · exact ⟨_, .base (.str z), kit_noseq (kit_ty (by decide +kernel)) (kit_ty (by decide +kernel))⟩
  · exact ⟨_, .base (.dK h), kit_noseq (kit_ty (by decide +kernel)) (kit_ty (by decide +kernel))⟩
/-- a thing among rows: no list and no tuple, or one of such things -/
def ThAt (H : Hp) (y : V) (cs : List V) : Prop := (NoSq H y ∧ cs = []) ∨ ∃ a, y = .ref a ∧ Seq H a cs ∧ cs.length ≤ 10 ∧ ∀ c ∈ cs, CellV H c
theorem Seq.xt {H H' : Hp} {a : Addr} {xs : List V} (h : Seq H a xs) (s : ExtN H H') : Seq H' a xs := h.imp (fun h => s _ _ h nofun) (fun h => s _ _ h nofun)
theorem ThAt.ext {H H' : Hp} {y : V} {cs : List V} (h : ThAt H y cs) (s : ExtN H H') : ThAt H' y cs := by
  rcases h with ⟨h, e⟩ | ⟨a, e, h, l, c⟩
  · exact .inl ⟨h.ext s, e⟩
  · exact .inr ⟨a, e, h.xt s, l, fun x hx => (c x hx).ext s⟩
structure ThL (H : Hp) (ys : List V) (css : List (List V)) : Prop where
  len : ys.length = css.length
  at_ : ∀ (i : Nat) (y : V) (cs : List V), ys[i]? = some y → css[i]? = some cs → ThAt H y cs
theorem ThL.ext {H H' : Hp} {ys : List V} {css : List (List V)} (h : ThL H ys css) (s : ExtN H H') : ThL H' ys css := ⟨h.len, fun i y cs a b => (h.at_ i y cs a b).ext s⟩
/-- names and folders behind some rows -/
def nsA (N : List Str) (css : List (List V)) : List Str := N ++ css.map nmC
def fsA (F : List Str) (css : List (List V)) : List Str := F ++ (css.filter foC).map nmC
def fitAt (N F : List Str) (css : List (List V)) (i : Nat) : Bool := match css[i]? with
  | some cs => fitB (nsA N (css.take i)) (fsA F (css.take i)) cs
  | none => false
inductive DueI (N F : List Str) (css : List (List V)) : Option Nat → Prop
  | fine (h : ∀ i, i < css.length → fitAt N F css i = true) : DueI N F css none
  | bad {i : Nat} (hi : i < css.length) (h : ∀ j, j < i → fitAt N F css j = true) (hb : fitAt N F css i = false) : DueI N F css (some i)
theorem dueI_ex (N F : List Str) (css : List (List V)) : ∃ r, DueI N F css r := by
  have : ∀ n, n ≤ css.length → (∀ i, i < n → fitAt N F css i = true) ∨ ∃ i, i < n ∧ (∀ j, j < i → fitAt N F css j = true) ∧ fitAt N F css i = false := by
    intro n
    induction n with
    | zero => exact fun _ => .inl fun i hi => by omega
    | succ n ih =>
      intro hn
      rcases ih (by omega) with h | ⟨i, hi, h1, h2⟩
      · cases e : fitAt N F css n with
        | true =>
          refine .inl fun i hi => ?_
          by_cases q : i = n
          · rw [q]; exact e
          · exact h i (by omega)
        | false => exact .inr ⟨n, by omega, h, e⟩
      · exact .inr ⟨i, by omega, h1, h2⟩
  rcases this css.length (Nat.le_refl _) with h | ⟨i, hi, h1, h2⟩
  · exact ⟨none, .fine h⟩
  · exact ⟨some i, .bad hi h1 h2⟩
theorem fit_top {N F : List Str} {cs : List V} : fitB (("top" : Str) :: N) F cs = fitB N F cs := by
  unfold fitB
  split
  · rename_i a b c d
    cases a with
    | str z =>
      by_cases e : z = ("top" : Str)
      · subst e
        have : nameB (.str ("top" : Str)) = false := by show nmB _ = false; unfold nmB; simp
        rw [this]; rfl
      · have : inB (("top" : Str) :: N) (.str z) = inB N (.str z) := by
          show decide (z ∈ ("top" : Str) :: N) = decide (z ∈ N)
          exact decide_eq_decide.mpr ⟨fun h => (List.mem_cons.mp h).resolve_left e, fun h => List.mem_cons_of_mem _ h⟩
        rw [this]
    | _ => rfl
  · rfl
theorem fitAt_top {N F : List Str} {css : List (List V)} {i : Nat} : fitAt (("top" : Str) :: N) F css i = fitAt N F css i := by
  unfold fitAt
  split
  · exact fit_top
  · rfl
theorem DueI.top {N F : List Str} {css : List (List V)} {r : Option Nat} (h : DueI (("top" : Str) :: N) F css r) : DueI N F css r := by
  cases h with
  | fine h => exact .fine fun i hi => by rw [← fitAt_top]; exact h i hi
  | bad hi h hb => exact .bad hi (fun j hj => by rw [← fitAt_top]; exact h j hj) (by rw [← fitAt_top]; exact hb)
def spIsNameG : Sp := fun vs H Q _ => ∃ x, vs = [x] ∧ CellV H x ∧ Q (.bl (nameB x)) H
def spIsNumberG : Sp := fun vs H Q _ => ∃ (x : V) (n : Int), vs = [x, .int n] ∧ CellV H x ∧ Q (.bl (numB n x)) H
def spIsPriceG : Sp := fun vs H Q _ => ∃ x, vs = [x] ∧ CellV H x ∧ Q (.bl (prB x)) H
def spIsRowG : Sp := fun vs H Q _ => ∃ (y : V) (d1 d2 : Addr) (cs : List V) (N F : List Str), vs = [y, .ref d1, .ref d2] ∧ ThAt H y cs ∧ MemD H d1 N ∧ MemD H d2 F ∧ ∀ H', Same H H' → Q (.bl (fitB N F cs)) H'
theorem bfalse {b : Bool} {p : Prop} (h : b = false → p) (h2 : b = true → p) : p := by cases b; exact h rfl; exact h2 rfl
section
variable {P : Program} {w : World} {K : PySem.W.Frag} {mg : Str → Option Value} {base : Heap}
theorem ok_is_nameG (D : DefAt K mg "is_name" s_is_name ["thing"]) (B : TxB mg) (C : TxC K mg) : FnOk P w K mg base CX0 2 D.f D.fd ["thing"] spIsNameG := by
  obtain ⟨t1, gT⟩ := C.top
  obtain ⟨t2, gL⟩ := C.long
  refine D.F.ok sc_is_name (fun vs H Q E h => ?_) (fun cdv A outer s H vs Q E hr h => ?_)
  · obtain ⟨z, rfl, _⟩ := h
    rfl
  · obtain ⟨x, rfl, hx, hq⟩ := h
    refine ⟨_, pss_cons (ps_if (PW.pt (pw_or (pt_not (pt_val (pe_callB call_isi (by rfl) B.isinstance (by decide +kernel) (pa_cons (pv 0) (pa_cons (pe_bltn (by rfl) B.str (by decide +kernel) (v := .ty "str") rfl) pa_nil)))))
        (pw_or (pt_cmpR op_eq (pv 0) (pe_glob (by rfl) gT (v := .str ("top" : Str)) ⟨_, rfl⟩) (nomark _)) (pw_or1 (pt_cmpR op_gt (pe_callB call_len (by rfl) B.len PySem.boot_len (pa_cons (pv 0) pa_nil)) (pe_glob (by rfl) gL (v := .int 8) ⟨_, rfl⟩) (nomark _)))))) (pss_one (ps_ret pe_bl)) pss_nil)
      (pss_one (ps_ret (pe_and (pe_m0 PySem.F.slot_str_isascii PySem.F.type_str_isascii mt_isascii (pv 0)) (pe_and (pe_m0 PySem.F.slot_str_isalpha PySem.F.type_str_isalpha mt_isalpha (pv 0)) (pe_one (pe_m0 PySem.F.slot_str_islower PySem.F.type_str_islower mt_islower (pv 0))))))), ?_⟩
    obtain ⟨ty, hty, k1, _, _⟩ := hx.ty (K := K)
    rcases hx with ⟨z, rfl, lz⟩ | ho
    · refine ⟨_, rfl, _, _, _, _, true, rfl, .ty "str", hty, k1, _, rfl, iteF ?_⟩
      refine ⟨_, rfl, rfl, _, rfl, ?_⟩
      have hq' : Q (.bl (nmB z)) H := hq
      unfold nmB at hq'
      by_cases e : z = ("top" : Str)
      · rw [decide_eq_true (show V.str z = V.str ("top" : Str) by rw [e])]
        rw [decide_eq_true e] at hq'
        exact iteT hq'
      rw [decide_eq_false (fun q => e (V.str.inj q))]
      rw [decide_eq_false e] at hq'
      refine iteF ?_
      refine ⟨_, rfl, _, z.length, rfl, ⟨szl (by omega), rfl⟩, _, _, rfl, rfl, _, rfl, ?_⟩
      by_cases e8 : 8 < z.length
      · rw [decide_eq_true (by omega)]
        rw [decide_eq_true e8] at hq'
        exact iteT hq'
      rw [decide_eq_false (by omega)]
      rw [decide_eq_false e8] at hq'
      refine iteF ?_
      refine ⟨_, rfl, ⟨_, rfl⟩, _, rfl, rfl, trivial, _, rfl, ?_⟩
      have hq2 : Q (.bl (Txt.isascii z && (Txt.isalpha z && Txt.islower z))) H := hq'
      cases e1 : Txt.isascii z with
      | false => rw [e1] at hq2; exact iteF hq2
      | true =>
        rw [e1] at hq2
        refine iteT ⟨_, rfl, ⟨_, rfl⟩, _, rfl, rfl, trivial, _, rfl, ?_⟩
        have hq3 : Q (.bl (Txt.isalpha z && Txt.islower z)) H := hq2
        cases e2 : Txt.isalpha z with
        | false => rw [e2] at hq3; exact iteF hq3
        | true =>
          rw [e2] at hq3
          exact iteT ⟨_, rfl, ⟨_, rfl⟩, _, rfl, rfl, trivial, hq3⟩
    · have n1 : isS x = false := by rcases ho with rfl | ⟨i, rfl⟩ | ⟨b, rfl⟩ | ⟨a, xs, rfl, _⟩ | ⟨a, xs, rfl, _⟩ | ⟨a, xs, rfl, _⟩ <;> rfl
      have n2 : nameB x = false := by rcases ho with rfl | ⟨i, rfl⟩ | ⟨b, rfl⟩ | ⟨a, xs, rfl, _⟩ | ⟨a, xs, rfl, _⟩ | ⟨a, xs, rfl, _⟩ <;> rfl
      rw [n1] at k1
      rw [n2] at hq
      exact ⟨_, rfl, _, _, _, _, false, rfl, .ty "str", hty, k1, _, rfl, iteT hq⟩
theorem ok_is_numberG (D : DefAt K mg "is_number" s_is_number ["thing", "least"]) (B : TxB mg) : FnOk P w K mg base CX0 1 D.f D.fd ["thing", "least"] spIsNumberG := by
  refine D.F.ok sc_is_number (fun vs H Q E h => ?_) (fun cdv A outer s H vs Q E hr h => ?_)
  · obtain ⟨z, n, rfl, _⟩ := h
    rfl
  · obtain ⟨x, n, rfl, hx, hq⟩ := h
    refine ⟨_, (pss_one (ps_ret (pe_and (pe_callB call_isi (by rfl) B.isinstance (by decide +kernel) (pa_cons (pv 0) (pa_cons (pe_bltn (by rfl) B.int (by decide +kernel) (v := .ty "int") rfl) pa_nil)))
        (pe_and (pe_not (pe_callB call_isi (by rfl) B.isinstance (by decide +kernel) (pa_cons (pv 0) (pa_cons (pe_bltn (by rfl) B.bool (by decide +kernel) (v := .ty "bool") rfl) pa_nil)))) (pe_one (pe_cmpR op_ge (pv 0) (pv 1) (nomark _))))))), ?_⟩
    obtain ⟨ty, hty, _, k2, k3⟩ := hx.ty (K := K)
    refine ⟨_, rfl, _, _, _, _, isI x, rfl, .ty "int", hty, k2, _, rfl, ?_⟩
    rcases hx with ⟨z, rfl, lz⟩ | rfl | ⟨i, rfl⟩ | ⟨b, rfl⟩ | ⟨a, xs, rfl, _⟩ | ⟨a, xs, rfl, _⟩ | ⟨a, xs, rfl, _⟩
    · exact iteF hq
    · exact iteF hq
    · refine iteT ⟨_, rfl, _, _, _, _, false, rfl, .ty "bool", hty, k3, _, rfl, _, rfl, iteT ?_⟩
      exact ⟨_, rfl, _, rfl, _, _, rfl, rfl, hq⟩
    · exact iteT ⟨_, rfl, _, _, _, _, true, rfl, .ty "bool", hty, k3, _, rfl, _, rfl, iteF hq⟩
    · exact iteF hq
    · exact iteF hq
    · exact iteF hq
theorem ok_is_priceG (D : DefAt K mg "is_price" s_is_price ["thing"]) (B : TxB mg) (C : TxC K mg) : FnOk P w K mg base CX0 2 D.f D.fd ["thing"] spIsPriceG := by
  have Gn : FnOk P w K mg base CX0 1 C.num.f C.num.fd ["thing", "least"] spIsNumberG := ok_is_numberG C.num B
  refine D.F.ok sc_is_price (fun vs H Q E h => ?_) (fun cdv A outer s H vs Q E hr h => ?_)
  · obtain ⟨z, rfl, _⟩ := h
    rfl
  · obtain ⟨x, rfl, hx, hq⟩ := h
    refine ⟨_, (pss_one (ps_ret (pe_or (pe_cmpR op_isN (pv 0) pe_non (nomark _)) (pe_one (pe_call Gn hr rfl C.num.g C.num.F.kp C.num.b .nil pass0 (pa_cons (pv 0) (pa_cons pe_int pa_nil))))))), ?_⟩
    refine ⟨_, rfl, rfl, _, rfl, ?_⟩
    by_cases e : x = .non
    · subst e
      rw [decide_eq_true rfl]
      exact iteT hq
    · rw [decide_eq_false e]
      have e2 : prB x = numB 1 x := by cases x <;> first | rfl | exact absurd rfl e
      rw [e2] at hq
      exact iteF ⟨_, rfl, x, 1, rfl, hx, hq⟩
end
end Ts

set_option maxRecDepth 100000
set_option maxHeartbeats 4000000
namespace Ts
open PySem L2
/-- the boxes on one of two ways alone -/
def stepsL (rs : List Row) (x y : Str) : List Str := (names rs).filter fun z => decide (((wayOf rs x ++ wayOf rs y).count z : Nat) = 1)
def spSteps (C : Addr) : Sp := fun vs H Q _ => ∃ (t : Addr) (x y : Str) (rs : List Row), vs = [.ref t, .str x, .str y] ∧ TreeAt C H t rs ∧ (x = ("top" : Str) ∨ x ∈ names rs) ∧ (y = ("top" : Str) ∨ y ∈ names rs) ∧
  ∀ D H', H D = none → Same H H' → H' D = some (.lst ((stepsL rs x y).map V.str)) → Q (.ref D) H'
section
variable {P : Program} {w : World} {K : PySem.W.Frag} {mg : Str → Option Value} {base : Heap} {C : Addr}
abbrev nSteps : List Str := ["self", "one", "other", "ways", "name"]
theorem sc_Tree_steps : FnScope nSteps ["self", "one", "other"] (defScope s_Tree_steps) := ⟨rfl, rfl, rfl, by decide +kernel, rfl, by decide +kernel, by decide +kernel⟩
theorem ok_Tree_steps {f : Addr} {fd : FuncData} (F : Fun K "steps" "Tree.steps" s_Tree_steps f fd) (T : TxT K mg C) (mW : MethAt K C "way" "Tree.way" s_Tree_way ["self", "box"]) (GW : FnOk P w K mg base CX0 5 mW.f mW.fd ["self", "box"] (spListOf C wayOf)) :
    FnOk P w K mg base CX0 6 f fd ["self", "one", "other"] (spSteps C) := by
  refine F.ok sc_Tree_steps (fun vs H Q E h => ?_) (fun cdv A outer s H vs Q E hr h => ?_)
  · obtain ⟨t, x, y, rs, rfl, _⟩ := h
    rfl
  · obtain ⟨t, x, y, rs, rfl, ht, hx, hy, hq⟩ := h
    obtain ⟨dx, q, f, k, p, qs, h1, h2, h3, h4, h5, h6⟩ := id ht.ex
    refine ⟨_, pss_cons (ps_set (i := 3) sc_Tree_steps.nd rfl (.inr rfl) (pe_op op_cat (pe_meth (pv 0) T.cl mW.m GW hr mW.b .nil pass0 (pa_cons (pv 1) pa_nil)) (pe_meth (pv 0) T.cl mW.m GW hr mW.b .nil pass0 (pa_cons (pv 2) pa_nil))))
      (pss_one (ps_ret (pe_lock (pe_lc (own := [("name", 4)]) (g := gName 4) (tt := tTest (tOp rEq (tBM K "list" (rCntS K) (tVar 3) (tCons (tVar 4) tNil)) (tC (.int 1)))) (te := tVar 4) rfl sc_Tree_steps.nd (pi_keys (pe_fld (pv 0) rfl)) (blkOk_by (N := nSteps) (sc := defScope s_Tree_steps) (by decide +kernel))
        (fun _ _ _ _ _ => pg_name (i := 4) sc_Tree_steps.nd rfl (Or.inl rfl)) (fun _ _ _ _ _ => by exact pts_one (pt_cmpR op_eq (pe_bm PySem.F.plainAttrs_list PySem.F.slot_list_count PySem.F.type_list_count mt_scount (pv 3) (pa_cons (pv 4) pa_nil)) pe_int (nomark _))) (fun _ _ _ _ _ => pv 4))))), ?_⟩
    have noW : (tf q f k p).lookup ("way" : Str) = none := tf_no _ _ _ _ (by decide +kernel) (by decide +kernel) (by decide +kernel) (by decide +kernel)
    have l100 := ht.len
    have lx := way_len (rs := rs) (z := x)
    have ly := way_len (rs := rs) (z := y)
    refine ⟨_, rfl, t, dx, _, rfl, h1, noW, _, rfl, t, x, rs, rfl, ht, hx, fun D1 H1 n1 s1 e1 => ?_⟩
    refine ⟨_, rfl, t, dx, _, rfl, s1 _ _ h1, noW, _, rfl, t, y, rs, rfl, ht.same s1, hy, fun D2 H2 n2 s2 e2 => ?_⟩
    refine ⟨D1, D2, _, _, rfl, rfl, s2 _ _ e1, e2, szl (by rw [List.length_map, List.length_map]; omega), fun W hW => ?_⟩
    rw [← List.map_append]
    have s3 : Same H (upd H2 W (.lst ((wayOf rs x ++ wayOf rs y).map V.str))) := (s1.trans s2).trans (Same.new hW)
    have e3 : (upd H2 W (.lst ((wayOf rs x ++ wayOf rs y).map V.str))) W = some (.lst ((wayOf rs x ++ wayOf rs y).map V.str)) := upd_same
    have h1' := s3 _ _ h1
    have h4' := s3 _ _ h4
    generalize upd H2 W (.lst ((wayOf rs x ++ wayOf rs y).map V.str)) = H3 at s3 e3 h1' h4'
    refine ⟨f, _, h4', trivial, fun od => ?_⟩
    have tf_ : t ≠ f := ne_of h1' h4' (by intro x; cases x)
    have Wf : W ≠ f := ne_of e3 h4' (by intro x; cases x)
    refine ⟨_, rfl, t, C, dx, _, _, rfl, Eq.trans (upd_ne tf_) h1', T.cl, T.nf, tf_f _ _ _ _, f, od, rfl, .inl ⟨_, upd_same, fun D hD => ?_⟩⟩
    have Df : D ≠ f := fun e => by rw [e, upd_same] at hD; cases hD
    have hD0 : H3 D = none := by rw [upd_ne Df] at hD; exact hD
    refine lc_it (walk_keys (d := f) (o := od) (kvs := kvF (fun r => .str r.fo) rs)) (fun i H' => Same (upd H3 f (.frz od (.dK (kvF (fun r => .str r.fo) rs)))) H' ∧ H' D = some (.lst ((((names rs).take i).filter fun z => decide (((wayOf rs x ++ wayOf rs y).count z : Nat) = 1)).map V.str))) ⟨Same.new hD, upd_same⟩ (fun i H' _ m => m.1 _ _ upd_same) ?_ ?_
    · rintro i u H4 H4' hi ⟨sm, hDi⟩ ⟨rfl, k', v', hk, rfl⟩
      obtain ⟨r, hr', rfl, rfl⟩ := kvF_at hk
      have hn : (names rs)[i]? = some r.nm := by unfold names; rw [List.getElem?_map, hr']; rfl
      have eW : H4' W = some (.lst ((wayOf rs x ++ wayOf rs y).map V.str)) := sm _ _ (by rw [upd_ne Wf]; exact e3)
      have i100 : i < 100 := by
        have := (List.getElem?_eq_some_iff.mp hr').1
        omega
      refine ⟨rfl, _, rfl, .inl ⟨rfl, _, SqL.of eW⟩, _, rfl, W, _, r.nm, rfl, rfl, SqL.of eW, rfl, _, rfl, ?_⟩
      refine ite2 (fun hc => ?_) (fun hc => ?_)
      · have hc' : ((wayOf rs x ++ wayOf rs y).count r.nm : Nat) = 1 := by
          have := V.int.inj (of_decide_eq_true hc)
          omega
        refine ⟨_, rfl, _, hDi, small1000 ?_, fun b o e => ?_, ?_⟩
        · rw [List.length_map]
          have := List.length_filter_le (fun z => decide (((wayOf rs x ++ wayOf rs y).count z : Nat) = 1)) ((names rs).take i)
          rw [List.length_take] at this
          omega
        · rw [upd_ne (fun q => by rw [q, hD] at e; cases e)]
          exact sm b o e
        · rw [upd_same, take_more hn, List.filter_append, List.filter_cons_of_pos (by rw [decide_eq_true hc']), List.map_append]; rfl
      · have hc' : ¬ ((wayOf rs x ++ wayOf rs y).count r.nm : Nat) = 1 := fun q => hc (by rw [q]; rfl)
        refine ⟨sm, ?_⟩
        rw [take_more hn, List.filter_append, List.filter_cons_of_neg (by rw [decide_eq_false hc']; exact Bool.false_ne_true), List.filter_nil, List.append_nil]
        exact hDi
    · rintro H4 ⟨sm, hDD⟩
      have e : (kvF (fun r => V.str r.fo) rs).length = (names rs).length := by unfold kvF names; rw [List.length_map, List.length_map]
      rw [e, List.take_length] at hDD
      refine ⟨sm _ _ upd_same, ?_⟩
      refine hq D _ (s3.free hD0) (s3.trans fun b o e => ?_) ?_
      · by_cases hb : b = f
        · rw [hb, upd_same, ← h4', ← hb]; exact e
        · rw [upd_ne hb]; exact sm _ _ (by rw [upd_ne hb]; exact e)
      · rw [upd_ne Df]; exact hDD
end
end Ts

set_option maxRecDepth 100000
set_option maxHeartbeats 1000000
namespace Ts
open PySem PySem.Spec PyProof.Rows L2
/-- x is True, where x is None or a truth -/
def rIsBN : R2 := fun x y H Q => ∃ (o : Option Bool) (b : Bool), x = (o.map V.bl).getD .non ∧ y = .bl b ∧ Q (.bl (decide (o = some b))) H
theorem op_isBN {X : Cx} : OpR X (compareOp .Is) rIsBN := by
  intro pins s σ H x y v u Q I rx ry h
  obtain ⟨o, b, rfl, rfl, q⟩ := h
  cases (show u = Value.bool b from ry)
  cases o with
  | none =>
    cases (show v = Value.none from rx)
    exact wpAny_is_other rfl (fun z => nomatch z) ⟨.bl false, H, I, rfl, by simpa using q⟩
  | some a =>
    cases (show v = Value.bool a from rx)
    by_cases e : a = b
    · subst e
      exact wpAny_is_self rfl ⟨.bl true, H, I, rfl, by simpa using q⟩
    · exact wpAny_is_other rfl (fun z => e (Value.bool.inj z)) ⟨.bl false, H, I, rfl, by simpa [e] using q⟩
end Ts

set_option maxRecDepth 100000
set_option maxHeartbeats 8000000
namespace Ts
open PySem L2
open LamX (ExtN Tabs TabB)
/-! ### what is a way -/
def endB (es : Wsh) (v : Bool) : V → Bool
  | .str z => decide (endO es z = some v)
  | _ => false
def wayB (es : Wsh) : List V → Bool
  | [a, b, c] => numB 1 a && (isS b && (isS c && (endB es true b && endB es false c)))
  | _ => false
theorem way_len3 {es : Wsh} {cs : List V} (h : cs.length ≠ 3) : wayB es cs = false := by
  unfold wayB
  split
  · exact absurd rfl h
  · rfl
def spIsWay : Sp := fun vs H Q _ => ∃ (ed : Addr) (y : V) (cs : List V) (es : Wsh), vs = [.ref ed, y] ∧ H ed = some (.dK (kvE es)) ∧ ThAt H y cs ∧ ∀ H', Same H H' → Q (.bl (wayB es cs)) H'
section
variable {P : Program} {w : World} {K : PySem.W.Frag} {mg : Str → Option Value} {base : Heap} {C CB : Addr}
abbrev nIW : List Str := ["ends", "thing", "amount", "one", "other"]
theorem sc_is_way : FnScope nIW ["ends", "thing"] (defScope s_is_way) := ⟨rfl, rfl, rfl, by decide +kernel, rfl, by decide +kernel, by decide +kernel⟩
theorem ok_is_way (D : DefAt K mg "is_way" s_is_way ["ends", "thing"]) (B : TxB mg) (TC : TxC K mg) : FnOk P w K mg base CX0 2 D.f D.fd ["ends", "thing"] spIsWay := by
  have Gn : FnOk P w K mg base CX0 1 TC.num.f TC.num.fd ["thing", "least"] spIsNumberG := ok_is_numberG TC.num B
  refine D.F.ok sc_is_way (fun vs H Q E h => ?_) (fun cdv A outer s H vs Q E hr h => ?_)
  · obtain ⟨ed, y, cs, es, rfl, _⟩ := h
    rfl
  · obtain ⟨ed, y, cs, es, rfl, hd, hy, hq⟩ := h
    have hu := hu_of hr
    refine ⟨_, pss_cons (ps_if (PW.pt (pw_or (pt_not (pt_val (pe_callB call_isiT (by rfl) B.isinstance (by decide +kernel) (pa_cons (pv 1) (pa_cons (pe_tup (pa_cons (pe_bltn (by rfl) B.list (by decide +kernel) (v := .ty "list") rfl) (pa_cons (pe_bltn (by rfl) B.tuple (by decide +kernel) (v := .ty "tuple") rfl) pa_nil))) pa_nil)))))
        (pw_or1 (pt_cmpR op_ne (pe_callB call_len_seq (by rfl) B.len PySem.boot_len (pa_cons (pv 1) pa_nil)) pe_int (nomark _))))) (pss_one (ps_ret pe_bl)) pss_nil)
      (C8.pss_cut (ps_asg (pv 1) (pg_or (pg_tup rfl (pgs_cons (pg_name (i := 2) sc_is_way.nd rfl (.inl rfl)) (pgs_cons (pg_name (i := 3) sc_is_way.nd rfl (.inl rfl)) (pgs_cons (pg_name (i := 4) sc_is_way.nd rfl (.inl rfl)) pgs_nil))))
          (pg_unl rfl (pgs_cons (pg_name (i := 2) sc_is_way.nd rfl (.inl rfl)) (pgs_cons (pg_name (i := 3) sc_is_way.nd rfl (.inl rfl)) (pgs_cons (pg_name (i := 4) sc_is_way.nd rfl (.inl rfl)) pgs_nil))))))
      (pss_cons (ps_if (PW.pt (pw_or (pt_not (pt_val (pe_call Gn hr rfl TC.num.g TC.num.F.kp TC.num.b .nil pass0 (pa_cons (pv 2) (pa_cons pe_int pa_nil)))))
          (pw_or (pt_not (pt_val (pe_callB call_isi (by rfl) B.isinstance (by decide +kernel) (pa_cons (pv 3) (pa_cons (pe_bltn (by rfl) B.str (by decide +kernel) (v := .ty "str") rfl) pa_nil)))))
          (pw_or1 (pt_not (pt_val (pe_callB call_isi (by rfl) B.isinstance (by decide +kernel) (pa_cons (pv 4) (pa_cons (pe_bltn (by rfl) B.str (by decide +kernel) (v := .ty "str") rfl) pa_nil))))))))) (pss_one (ps_ret pe_bl)) pss_nil)
      (pss_one (ps_ret (pe_and (pe_cmpR op_isBN (pe_dget1 hu (pv 0) (pv 3) (by constructor <;> intros <;> rfl)) pe_bl (nomark _)) (pe_one (pe_cmpR op_isBN (pe_dget1 hu (pv 0) (pv 4) (by constructor <;> intros <;> rfl)) pe_bl (nomark _)))))))), ?_⟩
    refine ⟨_, rfl, (by show 2 ≤ sizeLine; decide), fun tp htp => ?_⟩
    have s1 : Same H (upd H tp (.tup [.ty "list", .ty "tuple"])) := Same.new htp
    rcases hy with ⟨hn, rfl⟩ | ⟨a, rfl, ha, l10, hcell⟩
    · obtain ⟨ty0, ty, kk⟩ := (hn.ext (Same.x s1)).ty (K := K)
      exact ⟨_, tp, _, ty0, _, false, rfl, upd_same, .cons (.ty "list") (.cons (.ty "tuple") .nil), ty, kk, _, rfl, iteT (hq _ s1)⟩
    obtain ⟨t, ty, kk⟩ := (ha.same s1).ty (K := K)
    refine ⟨_, tp, _, t, _, true, rfl, upd_same, .cons (.ty "list") (.cons (.ty "tuple") .nil), ty, kk, _, rfl, iteF ?_⟩
    refine ⟨_, rfl, a, _, rfl, (ha.same s1).or, rfl, _, rfl, ?_⟩
    have e2 : (!decide (V.int (cs.length : Nat) = V.int 3)) = decide (cs.length ≠ 3) := by
      by_cases h : cs.length = 3
      · rw [h]; rfl
      · rw [decide_eq_true h, decide_eq_false (fun e => h (by have := V.int.inj e; omega))]; rfl
    rw [e2]
    by_cases h3 : cs.length = 3
    case neg =>
      rw [decide_eq_true h3]
      rw [way_len3 h3] at hq
      exact iteT (hq _ s1)
    rw [decide_eq_false (fun h => h h3)]
    refine iteF ?_
    obtain ⟨c1, c2, c3, rfl⟩ : ∃ c1 c2 c3, cs = [c1, c2, c3] := by
      match cs, h3 with
      | [c1, c2, c3], _ => exact ⟨_, _, _, rfl⟩
    have un : SqT K (upd H tp (.tup [.ty "list", .ty "tuple"])) a [c1, c2, c3] ∨ SqL K (upd H tp (.tup [.ty "list", .ty "tuple"])) a [c1, c2, c3] := (ha.same s1).or.symm
    refine ⟨fun σ' H' => σ' = [some (.ref ed), some (.ref a), some c1, some c2, some c3] ∧ H' = upd H tp (.tup [.ty "list", .ty "tuple"]), ?_, ?_⟩
    · refine ⟨_, rfl, ?_⟩
      rcases un with un | un
      · exact .inl ⟨a, _, rfl, un, rfl, _, _, rfl, _, _, rfl, _, _, rfl, rfl, rfl, rfl⟩
      · exact .inr ⟨a, _, rfl, un, rfl, _, _, rfl, _, _, rfl, _, _, rfl, rfl, rfl, rfl⟩
    rintro σ' H' ⟨rfl, rfl⟩
    have hx : ∀ c ∈ [c1, c2, c3], CellV (upd H tp (.tup [.ty "list", .ty "tuple"])) c := fun c hc => (hcell c hc).ext (Same.x s1)
    have hq1 : ∀ H', Same H H' → Q (.bl (numB 1 c1 && (isS c2 && (isS c3 && (endB es true c2 && endB es false c3))))) H' := hq
    have e1 := s1 _ _ hd
    generalize upd H tp (.tup [.ty "list", .ty "tuple"]) = H1 at s1 hx e1
    refine ⟨_, rfl, c1, 1, rfl, hx c1 (by simp), _, rfl, ?_⟩
    cases b1 : numB 1 c1 with
    | false =>
      rw [b1] at hq1
      exact iteT (hq1 _ s1)
    | true =>
    rw [b1] at hq1
    refine iteF ?_
    obtain ⟨ty2, hty2, k2, _, _⟩ := (hx c2 (by simp)).ty (K := K)
    refine ⟨_, rfl, _, _, _, _, isS c2, rfl, .ty "str", hty2, k2, _, rfl, ?_⟩
    have hq3 : ∀ H', Same H H' → Q (.bl (isS c2 && (isS c3 && (endB es true c2 && endB es false c3)))) H' := hq1
    cases b2 : isS c2 with
    | false =>
      rw [b2] at hq3
      exact iteT (hq3 _ s1)
    | true =>
    rw [b2] at hq3
    refine iteF ?_
    obtain ⟨ty3, hty3, k3, _, _⟩ := (hx c3 (by simp)).ty (K := K)
    refine ⟨_, rfl, _, _, _, _, isS c3, rfl, .ty "str", hty3, k3, _, rfl, ?_⟩
    have hq4 : ∀ H', Same H H' → Q (.bl (isS c3 && (endB es true c2 && endB es false c3))) H' := hq3
    cases b3 : isS c3 with
    | false =>
      rw [b3] at hq4
      exact iteT (hq4 _ s1)
    | true =>
    rw [b3] at hq4
    obtain ⟨x, rfl⟩ : ∃ f, c2 = .str f := by cases c2 <;> first | exact ⟨_, rfl⟩ | cases b2
    obtain ⟨y, rfl⟩ : ∃ f, c3 = .str f := by cases c3 <;> first | exact ⟨_, rfl⟩ | cases b3
    have dg : ∀ z : Str, DGet H1 ed (.str z) ((endO es z).map V.bl) := fun z => .inl ⟨_, .inr z, .inl e1, rfl, by rw [kvE_val]⟩
    have hq5 : ∀ H', Same H H' → Q (.bl (decide (endO es x = some true) && decide (endO es y = some false))) H' := hq4
    refine iteF ⟨_, rfl, ed, rfl, .inl ⟨_, .inl e1⟩, _, rfl, _, dg x, endO es x, true, rfl, rfl, _, rfl, ?_⟩
    cases b5 : decide (endO es x = some true) with
    | false =>
      rw [b5] at hq5
      exact iteF (hq5 _ s1)
    | true =>
      rw [b5] at hq5
      exact iteT ⟨_, rfl, ed, rfl, .inl ⟨_, .inl e1⟩, _, rfl, _, dg y, endO es y, false, rfl, rfl, hq5 _ s1⟩
end
end Ts

set_option maxRecDepth 100000
set_option maxHeartbeats 8000000
namespace Ts
open PySem L2
open LamX (ExtN Tabs TabB)
/-! ### ways that no step bears beyond its price -/
def amI : List V → Int
  | .int n :: _ => n
  | _ => 0
def onI (rs : List Row) (z : Str) : List V → Bool
  | [_, .str x, .str y] => decide (z ∈ stepsL rs x y)
  | _ => false
def loadI (rs : List Row) (css : List (List V)) (z : Str) : Int := (css.map fun cs => if onI rs z cs = true then amI cs else 0).sum
def okR (rs : List Row) (css : List (List V)) (r : Row) : Bool := match r.pr with
  | none => true
  | some p => decide (loadI rs css r.nm ≤ p)
def waysB (rs : List Row) (es : Wsh) (css : List (List V)) : Bool := css.all (wayB es) && rs.all (okR rs css)
/-- one form of target or the other -/
def gOr (g1 g2 : TG) : TG := fun v σ H Q => g1 v σ H Q ∨ g2 v σ H Q
theorem pg_or2 {X : Cx} {t : Expr} {g1 g2 : TG} (h1 : PG X t g1) (h2 : PG X t g2) : PG X t (gOr g1 g2) := pg_or h1 h2
theorem kvF_set {g : Row → V} {rs : List Row} {z : Str} (hz : z ∈ names rs) (v : V) : putK (kvF g rs) (.inr z) v = kvF (fun r => if r.nm = z then v else g r) rs := by
  have ha : ((kvF g rs).any fun kv => decide (kv.1 = (.inr z : Key))) = true := by
    obtain ⟨r, hr, e⟩ := List.mem_map.mp hz
    refine List.any_eq_true.mpr ⟨(.inr r.nm, g r), List.mem_map.mpr ⟨r, hr, rfl⟩, decide_eq_true (by rw [e])⟩
  unfold putK
  rw [if_pos ha]
  unfold kvF
  rw [List.map_map]
  refine List.map_congr_left fun r _ => ?_
  show (if ((.inr r.nm : Key)) = .inr z then ((.inr r.nm : Key), v) else ((.inr r.nm : Key), g r)) = ((.inr r.nm : Key), if r.nm = z then v else g r)
  by_cases q : r.nm = z
  · rw [if_pos (by rw [q]), if_pos q]
  · rw [if_neg (fun x => q (Sum.inr.inj x)), if_neg q]
theorem stepsL_nd {rs : List Row} (hv : Valid rs) (x y : Str) : (stepsL rs x y).Nodup := List.Nodup.sublist List.filter_sublist hv.nodup
theorem stepsL_sub {rs : List Row} {x y z : Str} (h : z ∈ stepsL rs x y) : z ∈ names rs := (List.mem_filter.mp h).1
theorem load_more {rs : List Row} {css : List (List V)} {i : Nat} {cs : List V} (h : css[i]? = some cs) (z : Str) : loadI rs (css.take (i + 1)) z = loadI rs (css.take i) z + if onI rs z cs = true then amI cs else 0 := by
  unfold loadI
  rw [take_more h, List.map_append, List.sum_append]
  simp
def NoSqB (H : Hp) (y : V) : Prop := NoSq H y ∨ ∃ b, y = .bl b
theorem NoSqB.ext {H H' : Hp} {y : V} (h : NoSqB H y) (s : ExtN H H') : NoSqB H' y := h.imp (fun h => h.ext s) id
theorem NoSqB.ty {K : PySem.W.Frag} {H : Hp} {y : V} (h : NoSqB H y) : ∃ t, TyX K H y t ∧ PySem.W.kitAny K t [.type "list", .type "tuple"] = some false := by
  rcases h with h | ⟨b, rfl⟩
  · exact h.ty
  · exact ⟨_, .base (.bl b), kit_noseq (kit_ty (by decide +kernel)) (kit_ty (by decide +kernel))⟩
/-- any thing that may be a list of ways -/
def WhV (H : Hp) (y : V) (o : Option (List (List V))) : Prop := (o = none ∧ NoSqB H y) ∨ ∃ (a : Addr) (ys : List V) (css : List (List V)), o = some css ∧ y = .ref a ∧ Seq H a ys ∧ ThL H ys css ∧ css.length ≤ 100
theorem WhV.ext {H H' : Hp} {y : V} {o : Option (List (List V))} (h : WhV H y o) (s : ExtN H H') : WhV H' y o := by
  rcases h with ⟨e, h⟩ | ⟨a, ys, css, e, e2, h1, h2, h3⟩
  · exact .inl ⟨e, h.ext s⟩
  · exact .inr ⟨a, ys, css, e, e2, h1.xt s, h2.ext s, h3⟩
def isWaysB (rs : List Row) (es : Wsh) (o : Option (List (List V))) : Bool := match o with
  | none => false
  | some css => waysB rs es css
def spIsWays (C : Addr) : Sp := fun vs H Q _ => ∃ (t wd : Addr) (y : V) (rs : List Row) (es : Wsh) (d : Option Bool) (o : Option (List (List V))), vs = [.ref t, .ref wd, dfV d, y] ∧ TreeAt C H t rs ∧ H wd = some (.dK (kvE es)) ∧ EndsOk rs es ∧ es.length ≤ 150 ∧ WhV H y o ∧
  ∀ H', Same H H' → Q (.bl (isWaysB rs (topE d es) o)) H'
theorem way_inv {es : Wsh} {cs : List V} (h : wayB es cs = true) : ∃ (n : Int) (x y : Str), cs = [.int n, .str x, .str y] ∧ 1 ≤ n ∧ endO es x = some true ∧ endO es y = some false := by
  unfold wayB at h
  split at h
  · rename_i a b c
    rw [Bool.and_eq_true, Bool.and_eq_true, Bool.and_eq_true, Bool.and_eq_true] at h
    obtain ⟨h1, h2, h3, h4, h5⟩ := h
    obtain ⟨n, rfl⟩ : ∃ n, a = .int n := by cases a <;> first | exact ⟨_, rfl⟩ | cases h1
    obtain ⟨x, rfl⟩ : ∃ n, b = .str n := by cases b <;> first | exact ⟨_, rfl⟩ | cases h2
    obtain ⟨y, rfl⟩ : ∃ n, c = .str n := by cases c <;> first | exact ⟨_, rfl⟩ | cases h3
    exact ⟨n, x, y, rfl, of_decide_eq_true h1, of_decide_eq_true h4, of_decide_eq_true h5⟩
  · cases h
theorem end_plc {rs : List Row} {es : Wsh} (h : EndsOk rs es) {z : Str} {b : Bool} (e : endO es z = some b) : z = ("top" : Str) ∨ z ∈ names rs := mem_plc.mp (h.inp _ (endO_some e))
section
variable {P : Program} {w : World} {K : PySem.W.Frag} {mg : Str → Option Value} {base : Heap} {C CB : Addr}
abbrev nIs : List Str := ["tree", "wish", "default", "thing", "ends", "box", "borne", "amount", "one", "other", "way"]
theorem sc_is_ways : FnScope nIs ["tree", "wish", "default", "thing"] (defScope s_is_ways) := ⟨rfl, rfl, rfl, by decide +kernel, rfl, by decide +kernel, by decide +kernel⟩
theorem ok_is_ways (D : DefAt K mg "is_ways" s_is_ways ["tree", "wish", "default", "thing"]) (B : TxB mg) (TC : TxC K mg) (T : TxT K mg C) (hA : mg "all" = none)
    (De : DefAt K mg "ends_of" s_ends_of ["tree", "wish", "default"]) (Ge : FnOk P w K mg base CX0 5 De.f De.fd ["tree", "wish", "default"] (spEndsOf C))
    (Dw : DefAt K mg "is_way" s_is_way ["ends", "thing"]) (Gw : FnOk P w K mg base CX0 2 Dw.f Dw.fd ["ends", "thing"] spIsWay)
    (mB : MethAt K C "below" "Tree.below" s_Tree_below ["self", "box"]) (GB : FnOk P w K mg base CX0 5 mB.f mB.fd ["self", "box"] (spListOf C belowL))
    (mS : MethAt K C "steps" "Tree.steps" s_Tree_steps ["self", "one", "other"]) (GS : FnOk P w K mg base CX0 6 mS.f mS.fd ["self", "one", "other"] (spSteps C))
    (mP : MethAt K C "price" "Tree.price" s_Tree_price ["self", "box"]) (GP : FnOk P w K mg base CX0 4 mP.f mP.fd ["self", "box"] (spGet C fun r => prV r.pr)) : FnOk P w K mg base CX0 7 D.f D.fd ["tree", "wish", "default", "thing"] (spIsWays C) := by
  obtain ⟨t1, gT⟩ := TC.top
  refine D.F.ok sc_is_ways (fun vs H Q E h => ?_) (fun cdv A outer s H vs Q E hr h => ?_)
  · obtain ⟨t, wd, y, rs, es, d, o, rfl, _⟩ := h
    rfl
  · obtain ⟨t, wd, y, rs, es, d, o, rfl, ht, hd, hok, hl, hy, hq⟩ := h
    have hu := hu_of hr
    have r2 : Room 2 _ := hr.mono (by decide)
    have r4 : Room 4 _ := hr.mono (by decide)
    have r5 : Room 5 _ := hr.mono (by decide)
    refine ⟨_, pss_cons (ps_set (i := 4) sc_is_ways.nd rfl (.inr rfl) (pe_call Ge r5 rfl De.g De.F.kp De.b .nil pass0 (pa_cons (pv 0) (pa_cons (pv 1) (pa_cons (pv 2) pa_nil)))))
      (pss_cons (ps_if (PW.pt (pw_or (pt_not (pt_val (pe_callB call_isiT (by rfl) B.isinstance (by decide +kernel) (pa_cons (pv 3) (pa_cons (pe_tup (pa_cons (pe_bltn (by rfl) B.list (by decide +kernel) (v := .ty "list") rfl) (pa_cons (pe_bltn (by rfl) B.tuple (by decide +kernel) (v := .ty "tuple") rfl) pa_nil))) pa_nil)))))
        (pw_or1 (pt_not (pt_val (pe_callB (cr_all rfl) (by rfl) hA (by decide +kernel) (pa_cons (pe_lc (own := [("way", 10)]) (g := gName 10) (tt := tYes) (te := tCall spIsWay [] E0 (tCons (tVar 4) (tCons (tVar 10) tNil))) rfl sc_is_ways.nd (pi_seqX (pv 3)) (blkOk_by (N := nIs) (sc := defScope s_is_ways) (by decide +kernel))
          (fun _ _ _ _ _ => pg_name (i := 10) sc_is_ways.nd rfl (Or.inl rfl)) (fun _ _ _ _ _ => pts_nil) (fun _ _ _ _ _ => by exact pe_call Gw r2 rfl Dw.g Dw.F.kp Dw.b .nil pass0 (pa_cons (pv 4) (pa_cons (pv 10) pa_nil)))) pa_nil))))))) (pss_one (ps_ret pe_bl)) pss_nil)
      (pss_cons (ps_set (i := 6) sc_is_ways.nd rfl (.inr rfl) (pe_dc (own := [("box", 5)]) (g := gName 5) (tt := tYes) (tk := tVar 5) (tv := tC (.int 0)) rfl sc_is_ways.nd (pi_list (pe_meth (pv 0) T.cl mB.m GB r5 mB.b .nil pass0 (pa_cons (pe_glob (by rfl) gT (v := .str ("top" : Str)) ⟨_, rfl⟩) pa_nil))) (blkOk_by (N := nIs) (sc := defScope s_is_ways) (by decide +kernel))
          (fun _ _ _ _ _ => pg_name (i := 5) sc_is_ways.nd rfl (Or.inl rfl)) (fun _ _ _ _ _ => pts_nil) (fun _ _ _ _ _ => pv 5) (fun _ _ _ _ _ => by exact pe_int)))
      (pss_cons (ps_for PassesOwn.never rfl (pi_seqX (pv 3)) (pg_or2 (pg_tup rfl (pgs_cons (pg_name (i := 7) sc_is_ways.nd rfl (.inl rfl)) (pgs_cons (pg_name (i := 8) sc_is_ways.nd rfl (.inl rfl)) (pgs_cons (pg_name (i := 9) sc_is_ways.nd rfl (.inl rfl)) pgs_nil))))
          (pg_unl rfl (pgs_cons (pg_name (i := 7) sc_is_ways.nd rfl (.inl rfl)) (pgs_cons (pg_name (i := 8) sc_is_ways.nd rfl (.inl rfl)) (pgs_cons (pg_name (i := 9) sc_is_ways.nd rfl (.inl rfl)) pgs_nil)))))
        (pss_one (ps_for PassesOwn.never rfl (pi_list (pe_meth (pv 0) T.cl mS.m GS hr mS.b .nil pass0 (pa_cons (pv 8) (pa_cons (pv 9) pa_nil)))) (pg_name (i := 5) sc_is_ways.nd rfl (.inl rfl))
          (pss_one (ps_daug hu (pv 6) (pv 5) (pv 7) in_add (by intros; rfl))))))
      (pss_one (ps_ret (pe_lock (pe_callB (cr_all rfl) (by rfl) hA (by decide +kernel) (pa_cons (pe_lc (own := [("box", 5)]) (g := gName 5) (tt := tYes) (te := tOrV (tOp (fun x y H Q => y = .non ∧ Q (.bl (decide (x = .non))) H) (tMeth C "price" (spGet C fun r => prV r.pr) [] E0 (tVar 0) (tCons (tVar 5) tNil)) (tC .non)) (tOp (rI0 fun i j => .bl (decide (i ≤ j))) (tDGet (tVar 6) (tVar 5)) (tMeth C "price" (spGet C fun r => prV r.pr) [] E0 (tVar 0) (tCons (tVar 5) tNil)))) rfl sc_is_ways.nd (pi_keys (pv 6)) (blkOk_by (N := nIs) (sc := defScope s_is_ways) (by decide +kernel))
          (fun _ _ _ _ _ => pg_name (i := 5) sc_is_ways.nd rfl (Or.inl rfl)) (fun _ _ _ _ _ => pts_nil) (fun _ _ _ _ _ => by exact pe_or (pe_cmpR op_isN (pe_meth (pv 0) T.cl mP.m GP r4 mP.b .nil pass0 (pa_cons (pv 5) pa_nil)) pe_non (nomark _)) (pe_one (pe_cmpR op_le (pe_dget hu (pv 6) (pv 5) (fun _ _ => rfl)) (pe_meth (pv 0) T.cl mP.m GP r4 mP.b .nil pass0 (pa_cons (pv 5) pa_nil)) (nomark _))))) pa_nil)))))))), ?_⟩
    have hv := ht.val
    have l100 := ht.len
    obtain ⟨dx, q, f, k, p, qs, h1, _⟩ := id ht.ex
    have noB : (tf q f k p).lookup ("below" : Str) = none := tf_no _ _ _ _ (by decide +kernel) (by decide +kernel) (by decide +kernel) (by decide +kernel)
    have noS : (tf q f k p).lookup ("steps" : Str) = none := tf_no _ _ _ _ (by decide +kernel) (by decide +kernel) (by decide +kernel) (by decide +kernel)
    have noP : (tf q f k p).lookup ("price" : Str) = none := tf_no _ _ _ _ (by decide +kernel) (by decide +kernel) (by decide +kernel) (by decide +kernel)
    have hok2 := topE_ok hok hl d
    refine ⟨_, rfl, _, rfl, _, rfl, t, wd, rs, es, d, rfl, ht, hd, hok, hl, fun ed H1 hed s1 e1 => ?_⟩
    refine ⟨_, rfl, (by show 2 ≤ sizeLine; decide), fun tp htp => ?_⟩
    have s2 : Same H1 (upd H1 tp (.tup [.ty "list", .ty "tuple"])) := Same.new htp
    have S2 := s1.trans s2
    rcases hy.ext (Same.x S2) with ⟨rfl, hn⟩ | ⟨a, ys, css, rfl, rfl, hsq, hth, hlen⟩
    · obtain ⟨ty0, ty, kk⟩ := hn.ty (K := K)
      exact ⟨_, tp, _, ty0, _, false, rfl, upd_same, .cons (.ty "list") (.cons (.ty "tuple") .nil), ty, kk, _, rfl, iteT (hq _ S2)⟩
    obtain ⟨ty0, ty, kk⟩ := hsq.ty (K := K)
    refine ⟨_, tp, _, ty0, _, true, rfl, upd_same, .cons (.ty "list") (.cons (.ty "tuple") .nil), ty, kk, _, rfl, iteF ?_⟩
    have e2 := s2 _ _ e1
    generalize upd H1 tp (.tup [.ty "list", .ty "tuple"]) = H2 at s2 S2 hsq hth e2
    have lys : ys.length = css.length := hth.len
    have sqx : ∀ {H' : Hp}, Same H2 H' → SqX K H' a ys := fun {H'} s => (hsq.same s).or
    refine ⟨a, ys, rfl, sqx (Same.refl _), fun J wk D hD => ?_⟩
    have hao : ∃ oa, H2 a = some oa := hsq.elim (fun h => ⟨_, h⟩) fun h => ⟨_, h⟩
    obtain ⟨oa, hoa⟩ := hao
    refine lc_it wk (fun i H' => Same H2 H' ∧ H' D = some (.lst (((css.take i).map (wayB (topE d es))).map V.bl))) ⟨Same.new hD, upd_same⟩ (fun i H' _ m => by rw [m.1 _ _ hoa, hoa]) ?_ ?_
    · rintro i x H3x H3 hi ⟨s3, e3⟩ ⟨rfl, hx⟩
      obtain ⟨cs, hcs⟩ : ∃ cs, css[i]? = some cs := ⟨_, List.getElem?_eq_getElem (by omega)⟩
      refine ⟨rfl, tYes_if ⟨_, rfl, _, rfl, ed, x, cs, topE d es, rfl, s3 _ _ e2, (hth.at_ i x cs hx hcs).ext (Same.x s3), fun H4 s4 => ⟨_, s4 _ _ e3, small1000 (by rw [List.length_map, List.length_map, List.length_take]; omega), fun b o eb => ?_, ?_⟩⟩⟩
      · rw [upd_ne (ne_of_none eb hD)]; exact s4 _ _ (s3 _ _ eb)
      · rw [upd_same, take_more hcs, List.map_append, List.map_append]; rfl
    rintro H3 ⟨s3, e3⟩
    rw [lys, List.take_length] at e3
    refine ⟨D, _, rfl, SqL.of e3, _, rfl, ?_⟩
    have eall : (css.map (wayB (topE d es))).all id = css.all (wayB (topE d es)) := by rw [List.all_map]; rfl
    rw [eall]
    have S3 := S2.trans s3
    cases call : css.all (wayB (topE d es)) with
    | false =>
      refine iteT (hq _ S3 |> fun h => ?_)
      have : isWaysB rs (topE d es) (some css) = false := by show (css.all (wayB (topE d es)) && _) = false; rw [call]; rfl
      rw [this] at h
      exact h
    | true =>
    refine iteF ?_
    have hways : ∀ cs ∈ css, wayB (topE d es) cs = true := fun cs h => List.all_eq_true.mp call cs h
    have hq2 : ∀ H', Same H H' → Q (.bl (rs.all (okR rs css))) H' := fun H' s => by
      have := hq H' s
      have e : isWaysB rs (topE d es) (some css) = rs.all (okR rs css) := by show (css.all (wayB (topE d es)) && _) = _; rw [call]; rfl
      rw [e] at this
      exact this
    -- what the steps bear
    refine ⟨_, rfl, t, dx, _, rfl, S3 _ _ h1, noB, t, ("top" : Str), rs, rfl, ht.same S3, .inl rfl, fun bl H4 hbl s4 e4 => ?_⟩
    rw [below_top hv] at e4
    have ln : ((names rs).map V.str).length = rs.length := by unfold names; rw [List.length_map, List.length_map]
    refine ⟨bl, rfl, ⟨_, SqL.of e4⟩, fun bd hbd => ?_⟩
    refine dc_walk (walk_list (K := K) (a := bl) (xs := (names rs).map V.str)) (fun i H' => Same H4 H' ∧ H' bd = some (.dK (kvF (fun _ => .int 0) (rs.take i)))) ⟨Same.new hbd, upd_same⟩ (fun i H' _ m => m.1.seq (SqL.of e4)) ?_ ?_
    · rintro i x H5x H5 hi ⟨s5, e5⟩ ⟨rfl, hxi⟩
      obtain ⟨r, rfl, hr'⟩ := nms_at hxi
      refine ⟨rfl, tYes_if ⟨_, rfl, _, .inr r.nm, rfl, e5, small1000 (by unfold kvF; rw [List.length_map, List.length_take]; omega), fun b o eb => ?_, ?_⟩⟩
      · rw [upd_ne (ne_of_none eb hbd)]; exact s5 _ _ eb
      · rw [upd_same]; exact congrArg (fun z => some (HO.dK z)) (kvF_next (g := fun _ => .int 0) hv hr')
    rintro H5 ⟨s5, e5⟩
    rw [ln, List.take_length] at e5
    have s25 : Same H2 H5 := s3.trans (s4.trans s5)
    have S5 : Same H H5 := S2.trans s25
    have hbd2 : H2 bd = none := (s3.trans s4).free hbd
    have hbdH : H bd = none := S2.free hbd2
    have nab : a ≠ bd := ne_of_none hoa hbd2
    refine ⟨a, ys, rfl, sqx s25, fun J2 wk2 => ?_⟩
    refine for_it wk2 (fun i σ H' => ∃ v5 v7 v8 v9 : Option V, σ = [some (.ref t), some (.ref wd), some (dfV d), some (.ref a), some (.ref ed), v5, some (.ref bd), v7, v8, v9, none] ∧ SB bd H5 H' ∧ H' bd = some (.dK (kvF (fun r => .int (loadI rs (css.take i) r.nm)) rs))) ⟨none, none, none, none, rfl, SB.refl _ _, e5⟩ (fun i σ H' _ ⟨_, _, _, _, _, sb, _⟩ => by rw [sb _ _ nab (s25 _ _ hoa), s25 _ _ hoa]) ?_ ?_
    · rintro i x σ H6x H6 hi ⟨v5, v7, v8, v9, rfl, sb6, e6⟩ ⟨rfl, hx⟩
      obtain ⟨cs, hcs⟩ : ∃ cs, css[i]? = some cs := ⟨_, List.getElem?_eq_getElem (by omega)⟩
      have hw := hways cs (List.mem_of_getElem? hcs)
      have S6 : Same H H6 := fun b o e => sb6 _ _ (ne_of_none e hbdH) (S5 _ _ e)
      have s26 : Same H2 H6 := fun b o e => sb6 _ _ (ne_of_none e hbd2) (s25 _ _ e)
      have hti := (hth.at_ i x cs hx hcs).ext (Same.x s26)
      obtain ⟨n, x1, x2, rfl, hn1, hx1, hx2⟩ := way_inv hw
      obtain ⟨a', rfl, hsa⟩ : ∃ a', x = .ref a' ∧ Seq H6 a' [.int n, .str x1, .str x2] := by
        rcases hti with ⟨_, e⟩ | ⟨a', e, h, _⟩
        · cases e
        · exact ⟨a', e, h⟩
      have hp1 := end_plc hok2 hx1
      have hp2 := end_plc hok2 hx2
      have un := hsa.or (K := K)
      rcases un with un | un
      case' inl => refine .inr ⟨a', _, rfl, un, rfl, _, _, rfl, _, _, rfl, _, _, rfl, rfl, ?_⟩
      case' inr => refine .inl ⟨a', _, rfl, un, rfl, _, _, rfl, _, _, rfl, _, _, rfl, rfl, ?_⟩
      all_goals
        refine ⟨_, rfl, t, dx, _, rfl, S6 _ _ h1, noS, _, rfl, _, rfl, t, x1, x2, rs, rfl, ht.same S6, hp1, hp2, fun D2 H7 hD2 s7 e7 => ⟨D2, rfl, ⟨_, SqL.of e7⟩, ?_⟩⟩
        have n2b : D2 ≠ bd := fun y => by rw [y, e6] at hD2; cases hD2
        refine for_list (K := K) (a := D2) (xs := (stepsL rs x1 x2).map V.str) (fun j σ H' => ∃ v5 : Option V, σ = [some (.ref t), some (.ref wd), some (dfV d), some (.ref a), some (.ref ed), v5, some (.ref bd), some (.int n), some (.str x1), some (.str x2), none] ∧ SB bd H7 H' ∧ H' bd = some (.dK (kvF (fun r => .int (loadI rs (css.take i) r.nm + if r.nm ∈ (stepsL rs x1 x2).take j then n else 0)) rs))) ⟨_, rfl, SB.refl _ _, by rw [s7 _ _ e6]; exact congrArg (fun z => some (HO.dK z)) (kvF_eq fun r _ => by simp)⟩ (fun j σ H' _ ⟨_, _, sb, _⟩ => SqL.of (sb _ _ n2b e7)) ?_ ?_
        · rintro j y σ H8 hy ⟨v5', rfl, sb8, e8⟩
          rw [List.getElem?_map] at hy
          obtain ⟨z, hz, rfl⟩ := Option.map_eq_some_iff.mp hy
          have hzn := stepsL_sub (List.mem_of_getElem? hz)
          obtain ⟨r, hro, hrm, rfl⟩ := rowOf_some hzn
          have nin : r.nm ∉ (stepsL rs x1 x2).take j := fun m => by
            obtain ⟨j', hj', ej'⟩ := List.mem_iff_getElem.mp m
            rw [List.length_take] at hj'
            rw [List.getElem_take] at ej'
            have := (List.getElem?_inj (i := j') (j := j) (by omega) (stepsL_nd hv x1 x2)).mp (by rw [hz, List.getElem?_eq_getElem (by omega), ej'])
            omega
          have dg : DGet H8 bd (.str r.nm) (some (.int (loadI rs (css.take i) r.nm + if r.nm ∈ (stepsL rs x1 x2).take j then n else 0))) := .inl ⟨_, .inr r.nm, .inl e8, rfl, (kvF_val (g := fun r => .int (loadI rs (css.take i) r.nm + if r.nm ∈ (stepsL rs x1 x2).take j then n else 0)) hv hrm).symm⟩
          refine ⟨_, rfl, _, rfl, bd, _, rfl, dg, _, rfl, _, _, rfl, rfl, _, DPut.k (k := Sum.inr r.nm) e8 (small1000 (by unfold kvF; rw [List.length_map]; omega)), _, rfl, fun b o nb eb => by rw [upd_ne nb]; exact sb8 _ _ nb eb, ?_⟩
          rw [upd_same]
          refine congrArg (fun z => some (HO.dK z)) ((kvF_set hzn _).trans (kvF_eq fun r' _ => ?_))
          rw [take_more hz]
          by_cases q : r'.nm = r.nm
          · rw [if_pos q, q, if_neg nin, if_pos (List.mem_append_right _ (List.mem_singleton_self _)), Int.add_zero]
          · rw [if_neg q]
            have : (r'.nm ∈ (stepsL rs x1 x2).take j ++ [r.nm]) ↔ r'.nm ∈ (stepsL rs x1 x2).take j := by
              rw [List.mem_append, List.mem_singleton]
              exact ⟨fun h => h.resolve_right q, .inl⟩
            simp only [this]
        · rintro σ H8 ⟨v5', rfl, sb8, e8⟩
          rw [List.length_map, List.take_length] at e8
          refine ⟨_, _, _, _, rfl, fun b o nb eb => sb8 _ _ nb (s7 _ _ (sb6 _ _ nb eb)), ?_⟩
          rw [e8]
          refine congrArg (fun z => some (HO.dK z)) (kvF_eq fun r' _ => ?_)
          rw [load_more hcs]
          show V.int (_ + if r'.nm ∈ stepsL rs x1 x2 then n else 0) = V.int (_ + if decide (r'.nm ∈ stepsL rs x1 x2) = true then n else 0)
          by_cases q : r'.nm ∈ stepsL rs x1 x2
          · rw [if_pos q, if_pos (decide_eq_true q)]
          · rw [if_neg q, if_neg (by rw [decide_eq_false q]; exact Bool.false_ne_true)]
    rintro σ H6 ⟨v5, v7, v8, v9, rfl, sb6, e6⟩
    rw [lys, List.take_length] at e6
    have S6 : Same H H6 := fun b o e => sb6 _ _ (ne_of_none e hbdH) (S5 _ _ e)
    refine ⟨bd, _, e6, trivial, fun od => ?_⟩
    obtain ⟨Hl, El⟩ : ∃ Hx, Hx = upd H6 bd (.frz od (.dK (kvF (fun r => .int (loadI rs css r.nm)) rs))) := ⟨_, rfl⟩
    have lk : Hl bd = some (.frz od (.dK (kvF (fun r => .int (loadI rs css r.nm)) rs))) := by rw [El]; exact upd_same
    have keep : ∀ b o, H b = some o → Hl b = some o := fun b o e => by rw [El, upd_ne (ne_of_none e hbdH)]; exact S6 _ _ e
    rw [← El]
    clear El
    refine ⟨_, rfl, bd, od, rfl, .inl ⟨_, lk, fun F hF => ?_⟩⟩
    refine lc_it (walk_keys (d := bd) (o := od) (kvs := kvF (fun r => .int (loadI rs css r.nm)) rs)) (fun i H' => Same Hl H' ∧ H' F = some (.lst (((rs.take i).map (okR rs css)).map V.bl))) ⟨Same.new hF, upd_same⟩ (fun i H' _ m => m.1 _ _ lk) ?_ ?_
    · rintro i x H7x H7 hi ⟨s7, e7⟩ ⟨rfl, k', v', hk, rfl⟩
      obtain ⟨r, hr', rfl, rfl⟩ := kvF_at hk
      have hrm := List.mem_of_getElem? hr'
      have S7 : Same H H7 := fun b o e => s7 _ _ (keep _ _ e)
      have dg : DGet H7 bd (.str r.nm) (some (.int (loadI rs css r.nm))) := .inl ⟨_, .inr r.nm, .inr ⟨od, s7 _ _ lk⟩, rfl, (kvF_val (g := fun r => .int (loadI rs css r.nm)) hv hrm).symm⟩
      have fin : ∀ b, b = okR rs css r → ∃ acc, H7 F = some (.lst acc) ∧ acc.length < sizeLine ∧ (Same Hl (upd H7 F (.lst (acc ++ [V.bl b]))) ∧ (upd H7 F (.lst (acc ++ [V.bl b]))) F = some (.lst (((rs.take (i + 1)).map (okR rs css)).map V.bl))) := fun b eb => by
        refine ⟨_, e7, small1000 (by rw [List.length_map, List.length_map, List.length_take]; omega), fun c o ec => ?_, ?_⟩
        · rw [upd_ne (ne_of_none ec hF)]; exact s7 _ _ ec
        · rw [upd_same, take_more hr', List.map_append, List.map_append, eb]; rfl
      refine ⟨rfl, tYes_if ⟨_, rfl, t, dx, _, rfl, S7 _ _ h1, noP, _, rfl, t, r.nm, rs, r, rfl, ht.same S7, rowOf_at hv hr', rfl, _, rfl, ?_⟩⟩
      cases c : r.pr with
      | none => exact iteT' (show decide (prV r.pr = V.non) = true by rw [c]; rfl) (fin _ (show true = okR rs css r by unfold okR; rw [c]))
      | some pp =>
        refine iteF' (show decide (prV r.pr = V.non) = false by rw [c]; rfl) ⟨_, rfl, _, rfl, bd, _, rfl, dg, _, rfl, t, dx, _, rfl, S7 _ _ h1, noP, _, rfl, t, r.nm, rs, r, rfl, ht.same S7, rowOf_at hv hr', _, pp, rfl, (show prV r.pr = V.int pp by rw [c]; rfl), fin _ (by unfold okR; rw [c])⟩
    rintro H7 ⟨s7, e7⟩
    rw [show (kvF (fun r => .int (loadI rs css r.nm)) rs).length = rs.length from by unfold kvF; rw [List.length_map], List.take_length] at e7
    refine ⟨F, _, rfl, SqL.of e7, s7 _ _ lk, ?_⟩
    have eall2 : (rs.map (okR rs css)).all id = rs.all (okR rs css) := by rw [List.all_map]; rfl
    rw [eall2]
    exact hq2 _ fun b o e => by rw [upd_ne (ne_of_none e hbdH)]; exact s7 _ _ (keep _ _ e)
end
end Ts

set_option maxRecDepth 100000
set_option maxHeartbeats 8000000
namespace Ts
open PySem L2
/-- the dict of the waiting parts while it is made: each value an empty list of its own -/
structure WtC (P : Program) (w : World) (H0 H : Hp) (D : Addr) (l : List EnP) : Prop where
  d : H D = some (DicP P w none D l)
  k : KeysP H l
  n : (keysP l).Nodup
  v : ∀ y ∈ l, ∃ c, y.v = .ref c ∧ H c = some (.lst []) ∧ H0 c = none
  i : ∀ y ∈ l, ∀ y' ∈ l, y.v = y'.v → (y.z, y.b) = (y'.z, y'.b)
theorem WtC.same {P : Program} {w : World} {H0 H H' : Hp} {D : Addr} {l : List EnP} (h : WtC P w H0 H D l) (s : Same H H') : WtC P w H0 H' D l :=
  ⟨s _ _ h.d, h.k.keep fun b xs e => s _ _ e, h.n, fun y hy => let ⟨c, e, e1, e2⟩ := h.v y hy; ⟨c, e, s _ _ e1, e2⟩, h.i⟩
theorem WtC.snoc {P : Program} {w : World} {H0 H : Hp} {D a n : Addr} {l : List EnP} {z : Str} {b : Bool} (h : WtC P w H0 H D l) (hD : H0 D = none) (ha : H a = some (.tup [.str z, .bl b])) (hn : atP l z b = none) (en : H n = some (.lst [])) (nD : n ≠ D) (nl : ∀ y ∈ l, y.v ≠ .ref n) (n0 : H0 n = none) :
    WtC P w H0 (upd H D (DicP P w none D (l ++ [⟨z, b, a, .ref n⟩]))) D (l ++ [⟨z, b, a, .ref n⟩]) := by
  have kk : ∀ c o, c ≠ D → H c = some o → (upd H D (DicP P w none D (l ++ [⟨z, b, a, .ref n⟩]))) c = some o := fun c o e x => by rw [upd_ne e]; exact x
  have nt : ∀ {c : Addr} {o : HO}, H c = some o → (∀ l, o ≠ DicP P w none D l) → c ≠ D := fun {c o} e no x => by
    rw [x, h.d] at e
    exact no _ (Option.some.inj e).symm
  refine ⟨upd_same, (KeysP.snoc h.k ha).keep fun c xs e => kk _ _ (nt e fun l x => nomatch x) e, ndP_snoc h.n hn, fun y hy => ?_, fun y hy y' hy' e => ?_⟩
  · rcases List.mem_append.mp hy with m | m
    · obtain ⟨c, e, e1, e2⟩ := h.v y m
      exact ⟨c, e, kk _ _ (nt e1 fun l x => nomatch x) e1, e2⟩
    · rw [List.mem_singleton.mp m]
      exact ⟨n, rfl, kk _ _ nD en, n0⟩
  · rcases List.mem_append.mp hy with m | m <;> rcases List.mem_append.mp hy' with m' | m'
    · exact h.i y m y' m' e
    · rw [List.mem_singleton.mp m'] at e; exact absurd e (nl y m)
    · rw [List.mem_singleton.mp m] at e; exact absurd e.symm (nl y' m')
    · rw [List.mem_singleton.mp m, List.mem_singleton.mp m']
theorem atP_val {z : Str} {b : Bool} {v : V} : ∀ {l : List EnP}, atP l z b = some v → ∃ y ∈ l, y.z = z ∧ y.b = b ∧ y.v = v
  | [], h => nomatch h
  | y :: l, h => by
    unfold atP at h
    rw [List.find?_cons] at h
    by_cases q : y.z = z ∧ y.b = b
    · rw [decide_eq_true q] at h
      exact ⟨y, List.mem_cons_self .., q.1, q.2, Option.some.inj h⟩
    · rw [decide_eq_false q] at h
      obtain ⟨x, hx, e⟩ := atP_val (l := l) h
      exact ⟨x, List.mem_cons_of_mem _ hx, e⟩
def adOf (D : Addr) (l : List EnP) (z : Str) (b : Bool) : Addr := match atP l z b with
  | some (.ref c) => c
  | _ => D
theorem adOf_eq {D c : Addr} {l : List EnP} {z : Str} {b : Bool} (h : atP l z b = some (.ref c)) : adOf D l z b = c := by
  unfold adOf
  rw [h]
theorem WtC.toI {P : Program} {w : World} {H0 H H' : Hp} {D wl rl : Addr} {l : List EnP} {ps : List Str} (h : WtC P w H0 H D l) (all : ∀ z ∈ ps, ∀ b, (atP l z b).isSome = true) (s : Same H H') (hr : H rl = none) (hw : H wl = none) : ∃ ad, WtI P w H0 H' D wl rl ps (fun _ _ => []) ad := by
  have key : ∀ z ∈ ps, ∀ b, ∃ c, atP l z b = some (.ref c) ∧ H c = some (.lst []) ∧ H0 c = none ∧ ∃ y ∈ l, y.z = z ∧ y.b = b ∧ y.v = .ref c := fun z hz b => by
    obtain ⟨v, ev⟩ := Option.isSome_iff_exists.mp (all z hz b)
    obtain ⟨y, hy, e1, e2, e3⟩ := atP_val ev
    obtain ⟨c, ec, e4, e5⟩ := h.v y hy
    have e6 : v = .ref c := e3.symm.trans ec
    exact ⟨c, by rw [ev, e6], e4, e5, y, hy, e1, e2, ec⟩
  refine ⟨adOf D l, ?_, fun z hz b => ?_, fun z hz b => ?_, fun z hz z' hz' b b' e => ?_⟩
  · refine ⟨l, s _ _ h.d, h.k.keep fun b xs e => s _ _ e, fun z hz b => ?_⟩
    obtain ⟨c, e, _⟩ := key z hz b
    show _ = some (V.ref (adOf D l z b))
    rw [adOf_eq e]; exact e
  · obtain ⟨c, e, e1, _⟩ := key z hz b
    rw [adOf_eq e]
    exact ⟨[], s _ _ e1, .nil⟩
  · obtain ⟨c, e, e1, e2, _⟩ := key z hz b
    rw [adOf_eq e]
    exact ⟨e2, (fun x => by rw [x, hr] at e1; cases e1), (fun x => by rw [x, hw] at e1; cases e1)⟩
  · obtain ⟨c, e1, _, _, y, hy, y1, y2, y3⟩ := key z hz b
    obtain ⟨c', e1', _, _, y', hy', y1', y2', y3'⟩ := key z' hz' b'
    rw [adOf_eq e1, adOf_eq e1'] at e
    have := h.i y hy y' hy' (by rw [y3, y3', e])
    rw [y1, y2, y1', y2'] at this
    exact ⟨congrArg Prod.fst this, congrArg Prod.snd this⟩
def spWays (C : Addr) : Sp := fun vs H Q _ => ∃ (t ed : Addr) (rs : List Row) (es : Wsh), vs = [.ref t, .ref ed] ∧ TreeAt C H t rs ∧ H ed = some (.dK (kvE es)) ∧ EndsOk rs es ∧ ∀ W H', H W = none → Same H H' → WyL H' W (waysF rs es) → Q (.ref W) H'
section
variable {P : Program} {w : World} {K : PySem.W.Frag} {mg : Str → Option Value} {base : Heap} {C CM CB : Addr}
abbrev nWb : List Str := ["tree", "ends", "steps", "place", "waiting", "ways", "found", "ons", "offs", "value"]
theorem sc_ways : FnScope nWb ["tree", "ends"] (defScope s_ways_between) := ⟨rfl, rfl, rfl, by decide +kernel, rfl, by decide +kernel, by decide +kernel⟩
theorem ok_ways (D : DefAt K mg "ways_between" s_ways_between ["tree", "ends"]) (TC : TxC K mg) (T : TxT K mg C) (U : TxU K mg)
    (De : DefAt K mg "endless" s_endless ["tree"]) (Ge : FnOk P w K mg base CX0 6 De.f De.fd ["tree"] (spEndless C))
    (Ds : DefAt K mg "step_prices" s_step_prices ["tree"]) (Gs : FnOk P w K mg base CX0 7 Ds.f Ds.fd ["tree"] (spSteps2 C))
    (Dp : DefAt K mg "paired" s_paired ["ons", "offs"]) (Gp : FnOk P w K mg base CX0 2 Dp.f Dp.fd ["ons", "offs"] spPaired)
    (Dl : DefAt K mg "let_through" s_let_through ["parts", "price"]) (Gl_ : FnOk P w K mg base CX0 1 Dl.f Dl.fd ["parts", "price"] spLet)
    (mB : MethAt K C "below" "Tree.below" s_Tree_below ["self", "box"]) (GB : FnOk P w K mg base CX0 5 mB.f mB.fd ["self", "box"] (spListOf C belowL))
    (mF : MethAt K C "folder" "Tree.folder" s_Tree_folder ["self", "box"]) (GF : FnOk P w K mg base CX0 4 mF.f mF.fd ["self", "box"] (spGet C fun r => .str r.fo)) : FnOk P w K mg base CX0 8 D.f D.fd ["tree", "ends"] (spWays C) := by
  obtain ⟨t1, gT⟩ := TC.top
  refine D.F.ok sc_ways (fun vs H Q E h => ?_) (fun cdv A outer s H vs Q E hr h => ?_)
  · obtain ⟨t, ed, rs, es, rfl, _⟩ := h
    rfl
  · obtain ⟨t, ed, rs, es, rfl, ht, hd, hok, hq⟩ := h
    have hu := hu_of hr
    have r1 : Room 1 _ := hr.mono (by decide)
    have r2 : Room 2 _ := hr.mono (by decide)
    have r4 : Room 4 _ := hr.mono (by decide)
    have r5 : Room 5 _ := hr.mono (by decide)
    have r6 : Room 6 _ := hr.mono (by decide)
    refine ⟨_, pss_cons (ps_set (i := 2) sc_ways.nd rfl (.inl rfl) (pe_call Gs hr rfl Ds.g Ds.F.kp Ds.b .nil pass0 (pa_cons (pv 0) pa_nil)))
      (pss_cons (ps_setDc2 (i := 4) (own := [("place", 3), ("value", 9)]) (vsb := [9]) (ga := gName 3) (qa := tYes) (wb := iTup K (tC (.ref U.A))) (gb := gName 9) (qb := tYes) (tk := tTup (tCons (tVar 3) (tCons (tVar 9) tNil))) (tv := tLst tNil) (storeP P w) hu rfl sc_ways.nd rfl rfl (swd_true rfl rfl rfl (by decide +kernel))
          (pi_list (pe_op op_cat (pe_lst (pa_cons (pe_glob (by rfl) gT (v := .str ("top" : Str)) ⟨_, rfl⟩) pa_nil)) (pe_meth (pv 0) T.cl mB.m GB r5 mB.b .nil pass0 (pa_cons (pe_glob (by rfl) gT (v := .str ("top" : Str)) ⟨_, rfl⟩) pa_nil)))) (blkOk_by (N := nWb) (sc := defScope s_ways_between) (by decide +kernel)) (by decide)
          (fun _ _ _ _ _ => pg_name (i := 3) sc_ways.nd rfl (Or.inl rfl)) (fun _ _ _ _ _ => pts_nil) (fun _ _ _ _ _ => pi_tup (pe_glob (by rfl) U.g (v := .ref U.A) rfl)) (fun _ _ _ _ _ => pg_name (i := 9) sc_ways.nd rfl (Or.inl rfl)) (fun _ _ _ _ _ => pts_nil)
          (fun _ _ _ _ _ => by exact pe_tup (pa_cons (pv 3) (pa_cons (pv 9) pa_nil))) (fun _ _ _ _ _ => by exact pe_lst pa_nil))
      (pss_cons (ps_set (i := 5) sc_ways.nd rfl (.inl rfl) (pe_lst pa_nil))
      (pss_cons (ps_for PassesOwn.never rfl (pi_list (pe_op op_cat (pe_revL (pe_meth (pv 0) T.cl mB.m GB r5 mB.b .nil pass0 (pa_cons (pe_glob (by rfl) gT (v := .str ("top" : Str)) ⟨_, rfl⟩) pa_nil))) (pe_lst (pa_cons (pe_glob (by rfl) gT (v := .str ("top" : Str)) ⟨_, rfl⟩) pa_nil)))) (pg_name (i := 3) sc_ways.nd rfl (.inl rfl))
        (C8.pss_cut (ps_if (pt_cmp (pc_din hu (pv 3) (pv 1)))
            (pss_one (ps_asg (pe_lst (pa_cons (pe_tup (pa_cons (pe_call Ge r6 rfl De.g De.F.kp De.b .nil pass0 (pa_cons (pv 0) pa_nil)) (pa_cons (pv 3) pa_nil))) pa_nil)) (pg_sub (pv 4) (pe_tup (pa_cons (pv 3) (pa_cons (pe_dget hu (pv 1) (pv 3) (fun _ _ => rfl)) pa_nil))) (pset_P hu)))) pss_nil)
        (pss_cons (ps_asg (pe_call Gp r2 rfl Dp.g Dp.F.kp Dp.b .nil pass0 (pa_cons (pe_getP hu (pv 4) (pe_tup (pa_cons (pv 3) (pa_cons pe_bl pa_nil))) (fun _ _ => rfl)) (pa_cons (pe_getP hu (pv 4) (pe_tup (pa_cons (pv 3) (pa_cons pe_bl pa_nil))) (fun _ _ => rfl)) pa_nil)))
            (pg_tup rfl (pgs_cons (pg_name (i := 6) sc_ways.nd rfl (.inl rfl)) (pgs_cons (pg_name (i := 7) sc_ways.nd rfl (.inl rfl)) (pgs_cons (pg_name (i := 8) sc_ways.nd rfl (.inl rfl)) pgs_nil)))))
        (pss_cons (ps_expr (pe_bm PySem.F.plainAttrs_list PySem.F.slot_list_extend PySem.F.type_list_extend mt_extend (pv 5) (pa_cons (pv 6) pa_nil)))
        (pss_one (ps_if (pt_cmpR op_ne (pv 3) (pe_glob (by rfl) gT (v := .str ("top" : Str)) ⟨_, rfl⟩) (nomark _))
          (pss_cons (ps_expr (pe_bm PySem.F.plainAttrs_list PySem.F.slot_list_extend PySem.F.type_list_extend mt_extend (pe_getP hu (pv 4) (pe_tup (pa_cons (pe_meth (pv 0) T.cl mF.m GF r4 mF.b .nil pass0 (pa_cons (pv 3) pa_nil)) (pa_cons pe_bl pa_nil))) (fun _ _ => rfl)) (pa_cons (pe_call Gl_ r1 rfl Dl.g Dl.F.kp Dl.b .nil pass0 (pa_cons (pv 7) (pa_cons (pe_dget hu (pv 2) (pv 3) (fun _ _ => rfl)) pa_nil))) pa_nil)))
          (pss_one (ps_expr (pe_bm PySem.F.plainAttrs_list PySem.F.slot_list_extend PySem.F.type_list_extend mt_extend (pe_getP hu (pv 4) (pe_tup (pa_cons (pe_meth (pv 0) T.cl mF.m GF r4 mF.b .nil pass0 (pa_cons (pv 3) pa_nil)) (pa_cons pe_bl pa_nil))) (fun _ _ => rfl)) (pa_cons (pe_call Gl_ r1 rfl Dl.g Dl.F.kp Dl.b .nil pass0 (pa_cons (pv 8) (pa_cons (pe_dget hu (pv 2) (pv 3) (fun _ _ => rfl)) pa_nil))) pa_nil))))) pss_nil))))))
      (pss_one (ps_ret (pv 5)))))), ?_⟩
    have hv := ht.val
    have l100 := ht.len
    obtain ⟨dx, q, f, k, p, qs, h1, _⟩ := id ht.ex
    have noB : (tf q f k p).lookup ("below" : Str) = none := tf_no _ _ _ _ (by decide +kernel) (by decide +kernel) (by decide +kernel) (by decide +kernel)
    have noF : (tf q f k p).lookup ("folder" : Str) = none := tf_no _ _ _ _ (by decide +kernel) (by decide +kernel) (by decide +kernel) (by decide +kernel)
    refine ⟨_, rfl, t, rs, rfl, ht, fun sd H2 hsd S2 esd => ?_⟩
    refine ⟨(by show 1 ≤ sizeLine; decide), fun l1 hl1 => ?_⟩
    have s3 : Same H2 (upd H2 l1 (.lst [V.str ("top" : Str)])) := Same.new hl1
    have e3 : (upd H2 l1 (.lst [V.str ("top" : Str)])) l1 = some (.lst [V.str ("top" : Str)]) := upd_same
    generalize upd H2 l1 (.lst [V.str ("top" : Str)]) = H3 at s3 e3
    refine ⟨_, rfl, t, dx, _, rfl, (S2.trans s3) _ _ h1, noB, t, ("top" : Str), rs, rfl, ht.same (S2.trans s3), .inl rfl, fun bl H4 hbl s4 e4 => ?_⟩
    rw [below_top hv] at e4
    have ln : ((names rs).map V.str).length = rs.length := by unfold names; rw [List.length_map, List.length_map]
    refine ⟨l1, bl, _, _, rfl, rfl, s4 _ _ e3, e4, Nat.le_of_lt (small1000 (by rw [ln]; show 1 + rs.length ≤ 1000; omega)), fun pl hpl => ?_⟩
    have s5 : Same H4 (upd H4 pl (.lst ([V.str ("top" : Str)] ++ (names rs).map V.str))) := Same.new hpl
    have e5 : (upd H4 pl (.lst ([V.str ("top" : Str)] ++ (names rs).map V.str))) pl = some (.lst ((plc rs).map V.str)) := upd_same
    generalize upd H4 pl (.lst ([V.str ("top" : Str)] ++ (names rs).map V.str)) = H5 at s5 e5
    have S5 : Same H H5 := S2.trans (s3.trans (s4.trans s5))
    have esd5 := (s3.trans (s4.trans s5)) _ _ esd
    have pl101 : (plc rs).length ≤ 101 := by unfold plc names; rw [List.length_cons, List.length_map]; omega
    have pnd := plc_nodup hv
    clear hl1 s3 e3 s4 e4 hpl s5
    refine ⟨pl, rfl, ⟨_, SqL.of e5⟩, fun D hD => ?_⟩
    refine walk2 (walk_list (K := K) (a := pl) (xs := (plc rs).map V.str)) (fun i H' => Same H5 H' ∧ ∃ l, WtC P w H5 H' D l ∧ l.length = 2 * i ∧ ∀ z b, ((atP l z b).isSome ↔ z ∈ (plc rs).take i))
      ⟨Same.new hD, [], ⟨upd_same, (fun y hy => by cases hy), List.nodup_nil, (fun y hy => by cases hy), (fun y hy => by cases hy)⟩, rfl, (fun z b => by show (none : Option V).isSome ↔ _; simp)⟩ (fun i H' _ m => SqL.of (m.1 _ _ e5)) ?_ ?_
    · rintro i x H6x H6 hi ⟨s6, l, hl, hll, hat⟩ ⟨rfl, hx⟩
      rw [List.getElem?_map] at hx
      obtain ⟨z, hz, rfl⟩ := Option.map_eq_some_iff.mp hx
      rw [List.length_map] at hi
      have hzn : z ∉ (plc rs).take i := fun m => by
        obtain ⟨j, hj, ej⟩ := List.mem_iff_getElem.mp m
        rw [List.length_take] at hj
        rw [List.getElem_take] at ej
        have := (List.getElem?_inj (i := j) (j := i) (by omega) pnd).mp (by rw [hz, List.getElem?_eq_getElem (by omega), ej])
        omega
      refine ⟨rfl, tYes_if ⟨U.A, rfl, ⟨_, U.t _⟩, ?_⟩⟩
      refine walk2 (walk_tup (K := K) (a := U.A) (xs := [V.bl false, V.bl true])) (fun j H' => Same H5 H' ∧ ∃ l, WtC P w H5 H' D l ∧ l.length = 2 * i + j ∧ ∀ y b, ((atP l y b).isSome ↔ (y ∈ (plc rs).take i ∨ (y = z ∧ ((b = false ∧ 1 ≤ j) ∨ (b = true ∧ 2 ≤ j))))))
        ⟨s6, l, hl, hll, fun y b => by rw [hat]; simp⟩ (fun j H' _ m => U.t _) ?_ ?_
      · rintro j y H7x H7 hj ⟨s7, l, hl, hll, hat⟩ ⟨rfl, hy⟩
        obtain ⟨b, rfl, hbj⟩ := vals_at hy
        have hn : atP l z b = none := by
          cases e : atP l z b with
          | none => rfl
          | some v =>
            rcases (hat z b).mp (by rw [e]; rfl) with m | ⟨_, m⟩
            · exact absurd m hzn
            · rcases hbj with ⟨rfl, rfl⟩ | ⟨rfl, rfl⟩ <;> simp at m
        refine ⟨rfl, tYes_if ?_⟩
        refine ⟨_, rfl, _, rfl, (by show 2 ≤ sizeLine; decide), fun a ha => ?_⟩
        have s8 : Same H7 (upd H7 a (.tup [V.str z, V.bl b])) := Same.new ha
        have e8 : (upd H7 a (.tup [V.str z, V.bl b])) a = some (.tup [V.str z, V.bl b]) := upd_same
        generalize upd H7 a (.tup [V.str z, V.bl b]) = H8 at s8 e8
        refine ⟨Nat.zero_le _, fun n hn8 => ?_⟩
        have s9 : Same H8 (upd H8 n (.lst [])) := Same.new hn8
        have e9 : (upd H8 n (.lst [])) n = some (.lst []) := upd_same
        generalize upd H8 n (.lst []) = H9 at s9 e9
        have s89 := s8.trans s9
        have hl9 := hl.same s89
        have nD : n ≠ D := fun x => by rw [x, s8 _ _ hl.d] at hn8; cases hn8
        have nl : ∀ y ∈ l, y.v ≠ .ref n := fun y hy x => by
          obtain ⟨c, ec, e1, _⟩ := hl.v y hy
          rw [ec] at x
          rw [V.ref.inj x] at e1
          rw [s8 _ _ e1] at hn8; cases hn8
        have hj2 : j < 2 := hj
        refine ⟨none, l, a, z, b, rfl, hl9.d, hl9.k, s9 _ _ e8, hn, small1000 (by omega), fun c o ec => ?_, _, hl9.snoc hD (s9 _ _ e8) hn e9 nD nl (s7.free (s8.free hn8)), by rw [List.length_append, hll]; rfl, fun y b' => ?_⟩
        · rw [upd_ne (ne_of_none ec hD)]; exact s89 _ _ (s7 _ _ ec)
        · rw [atP_snoc]
          have hh := hat y b'
          by_cases c2 : z = y ∧ b = b'
          · obtain ⟨rfl, rfl⟩ := c2
            rw [hn, if_pos (show (EnP.mk z b a (V.ref n)).z = z ∧ (EnP.mk z b a (V.ref n)).b = b from ⟨rfl, rfl⟩)]
            refine ⟨fun _ => .inr ⟨rfl, ?_⟩, fun _ => rfl⟩
            rcases hbj with ⟨rfl, rfl⟩ | ⟨rfl, rfl⟩
            · exact .inl ⟨rfl, by omega⟩
            · exact .inr ⟨rfl, by omega⟩
          · rw [if_neg (show ¬ ((EnP.mk z b a (V.ref n)).z = y ∧ (EnP.mk z b a (V.ref n)).b = b') from c2), Option.or_none, hh]
            constructor
            · rintro (m | ⟨m, n | n⟩)
              · exact .inl m
              · exact .inr ⟨m, .inl ⟨n.1, by omega⟩⟩
              · exact .inr ⟨m, .inr ⟨n.1, by omega⟩⟩
            · rintro (m | ⟨m, n⟩)
              · exact .inl m
              · refine .inr ⟨m, ?_⟩
                rcases hbj with ⟨rfl, rfl⟩ | ⟨rfl, rfl⟩
                · rcases n with n | n
                  · exact absurd ⟨m.symm, n.1.symm⟩ c2
                  · exact .inr ⟨n.1, by omega⟩
                · rcases n with n | n
                  · exact .inl ⟨n.1, by omega⟩
                  · exact absurd ⟨m.symm, n.1.symm⟩ c2
      · rintro H7 ⟨s7, l, hl, hll, hat⟩
        refine ⟨s7, l, hl, by rw [hll]; rfl, fun y b => ?_⟩
        rw [hat, take_more hz, List.mem_append, List.mem_singleton]
        constructor
        · rintro (m | m)
          · exact .inl m
          · exact .inr m.1
        · rintro (m | m)
          · exact .inl m
          · refine .inr ⟨m, ?_⟩
            cases b
            · exact .inl ⟨rfl, by decide⟩
            · exact .inr ⟨rfl, by decide⟩
    rintro H6 ⟨s6, l, hl, hll, hat⟩
    rw [List.length_map] at hll hat
    simp only [List.take_length] at hat
    have S6 := S5.trans s6
    have esd6 := s6 _ _ esd5
    refine ⟨Nat.zero_le _, fun wl hwl => ?_⟩
    have s7 : Same H6 (upd H6 wl (.lst [])) := Same.new hwl
    have e7 : (upd H6 wl (.lst [])) wl = some (.lst []) := upd_same
    generalize upd H6 wl (.lst []) = H7 at s7 e7
    have S7 := S6.trans s7
    refine ⟨_, rfl, t, dx, _, rfl, S7 _ _ h1, noB, t, ("top" : Str), rs, rfl, ht.same S7, .inl rfl, fun bl2 H8 hbl2 s8 e8 => ?_⟩
    rw [below_top hv] at e8
    refine ⟨bl2, _, rfl, SqL.of e8, fun r1l hr1 => ⟨(by show 1 ≤ sizeLine; decide), fun r2l hr2 => ?_⟩⟩
    have s9 : Same H8 (upd H8 r1l (.lst ((names rs).map V.str).reverse)) := Same.new hr1
    have e9 : (upd H8 r1l (.lst ((names rs).map V.str).reverse)) r1l = some (.lst ((names rs).map V.str).reverse) := upd_same
    generalize upd H8 r1l (.lst ((names rs).map V.str).reverse) = H9 at s9 e9 hr2
    have s10 : Same H9 (upd H9 r2l (.lst [V.str ("top" : Str)])) := Same.new hr2
    have e10 : (upd H9 r2l (.lst [V.str ("top" : Str)])) r2l = some (.lst [V.str ("top" : Str)]) := upd_same
    generalize upd H9 r2l (.lst [V.str ("top" : Str)]) = H10 at s10 e10
    refine ⟨r1l, r2l, _, _, rfl, rfl, s10 _ _ e9, e10, Nat.le_of_lt (small1000 (by rw [List.length_reverse, ln]; show rs.length + 1 ≤ 1000; omega)), fun rl hrl => ?_⟩
    have s11 : Same H10 (upd H10 rl (.lst (((names rs).map V.str).reverse ++ [V.str ("top" : Str)]))) := Same.new hrl
    have e11 : (upd H10 rl (.lst (((names rs).map V.str).reverse ++ [V.str ("top" : Str)]))) rl = some (.lst (((names rs).map V.str).reverse ++ [V.str ("top" : Str)])) := upd_same
    generalize upd H10 rl (.lst (((names rs).map V.str).reverse ++ [V.str ("top" : Str)])) = H11 at s11 e11
    have s711 := s8.trans (s9.trans (s10.trans s11))
    have s611 := s7.trans s711
    have hrl6 : H6 rl = none := (s7.trans (s8.trans (s9.trans s10))).free hrl
    obtain ⟨ad0, wt0⟩ := hl.toI (rl := rl) (wl := wl) (ps := plc rs) (fun z hz b => (hat z b).mpr hz) s611 hrl6 hwl
    have nrw : rl ≠ wl := fun x => by rw [x, (s8.trans (s9.trans s10)) _ _ e7] at hrl; cases hrl
    have nwD : wl ≠ D := fun x => by rw [x, hl.d] at hwl; cases hwl
    have nrD : rl ≠ D := fun x => by rw [x, hl.d] at hrl6; cases hrl6
    have wy0 : WyL H11 wl [] := ⟨[], s711 _ _ e7, .nil⟩
    have S511 : Same H5 H11 := s6.trans s611
    have hwl5 : H5 wl = none := s6.free hwl
    clear e7 s7 e8 s8 hbl2 hr1 s9 e9 hr2 s10 e10 hrl s11 s711 s611 hl hll hat
    refine ⟨rl, rfl, ⟨_, SqL.of e11⟩, ?_⟩
    refine for_list (K := K) (a := rl) (xs := ((names rs).map V.str).reverse ++ [V.str ("top" : Str)]) (fun i σ H' => ∃ v3 v6 v7 v8 : Option V, σ = [some (.ref t), some (.ref ed), some (.ref sd), v3, some (.ref D), some (.ref wl), v6, v7, v8, none] ∧ Same H5 H' ∧ H' rl = some (.lst (((names rs).map V.str).reverse ++ [V.str ("top" : Str)])) ∧
        ((i ≤ rs.length ∧ ∃ ad, WtI P w H5 H' D wl rl (plc (rs.take (rs.length - i))) (waysS rs es (rs.drop (rs.length - i))).2 ad ∧ WyL H' wl (waysS rs es (rs.drop (rs.length - i))).1) ∨ (i = rs.length + 1 ∧ WyL H' wl (waysF rs es))))
      ⟨none, none, none, none, rfl, S511, e11, .inl ⟨Nat.zero_le _, ad0, by rw [Nat.sub_zero, List.drop_length, List.take_length]; exact wt0, by rw [Nat.sub_zero, List.drop_length]; exact wy0⟩⟩ (fun i σ H' _ ⟨_, _, _, _, _, _, m, _⟩ => SqL.of m) ?_ ?_
    · rintro i x σ H12 hx ⟨v3, v6, v7, v8, rfl, s12, erl, hst⟩
      have hil : i < rs.length + 1 := by
        have := (List.getElem?_eq_some_iff.mp hx).1
        rw [List.length_append, List.length_reverse, ln] at this; exact this
      rcases hst with ⟨_, ad, wt, wy⟩ | ⟨e, _⟩
      case inr => omega
      -- which place
      obtain ⟨z, rfl, hzc⟩ : ∃ z : Str, x = .str z ∧ ((z = ("top" : Str) ∧ i = rs.length) ∨ ∃ (m : Nat) (r : Row), z = r.nm ∧ i < rs.length ∧ rs[m]? = some r ∧ rs.length - i = m + 1 ∧ rs.length - (i + 1) = m) := by
        by_cases q : i < rs.length
        · rw [List.getElem?_append_left (by rw [List.length_reverse, ln]; exact q), List.getElem?_reverse (by rw [ln]; exact q), ln] at hx
          obtain ⟨r, rfl, hr'⟩ := nms_at hx
          exact ⟨r.nm, rfl, .inr ⟨_, r, rfl, q, hr', by omega, by omega⟩⟩
        · have e : i = rs.length := by omega
          rw [List.getElem?_append_right (by rw [List.length_reverse, ln]; omega), List.length_reverse, ln, e, Nat.sub_self] at hx
          cases hx
          exact ⟨_, rfl, .inl ⟨rfl, e⟩⟩
      have hpot := ways_pot rs es (rs.drop (rs.length - i)) (rs.take (rs.length - i)) (by rw [List.take_append_drop]; exact hv)
      have hdl : (rs.drop (rs.length - i)).length ≤ 100 := by rw [List.length_drop]; omega
      have hzp : z ∈ plc (rs.take (rs.length - i)) := by
        rcases hzc with ⟨rfl, _⟩ | ⟨m, r, rfl, _, hr', e1, _⟩
        · exact mem_plc.mpr (.inl rfl)
        · rw [e1, take_more hr']
          refine mem_plc.mpr (.inr ?_)
          unfold names
          rw [List.map_append]
          exact List.mem_append_right _ (List.mem_singleton_self _)
      have hzr : z ∈ plc rs := by
        rcases mem_plc.mp hzp with e | e
        · exact mem_plc.mpr (.inl e)
        · obtain ⟨r, hr, e⟩ := List.mem_map.mp e
          exact mem_plc.mpr (.inr (List.mem_map.mpr ⟨r, List.mem_of_mem_take hr, e⟩))
      obtain ⟨S, eS⟩ : ∃ S, S = waysS rs es (rs.drop (rs.length - i)) := ⟨_, rfl⟩
      obtain ⟨ps, eps⟩ : ∃ ps, ps = plc (rs.take (rs.length - i)) := ⟨_, rfl⟩
      rw [← eS] at wt wy hpot
      rw [← eps] at wt hzp hpot
      have hwz := wlen_mem (g := wLen S.2) hzp
      unfold wLen at hwz hpot
      have S12 := S5.trans s12
      have dge : DGet H12 ed (.str z) ((endO es z).map V.bl) := .inl ⟨_, .inr z, .inl (S12 _ _ hd), rfl, by rw [kvE_val]⟩
      -- an end gives as much as is asked
      refine ⟨fun σ' H' => σ' = [some (.ref t), some (.ref ed), some (.ref sd), some (.str z), some (.ref D), some (.ref wl), v6, v7, v8, none] ∧ Same H5 H' ∧ H' rl = some (.lst (((names rs).map V.str).reverse ++ [V.str ("top" : Str)])) ∧ WyL H' wl S.1 ∧ ∃ ad W, WtI P w H5 H' D wl rl ps W ad ∧ (∀ b, W z b = endP rs es S.2 z b) ∧ ∀ y, y ≠ z → ∀ b, W y b = S.2 y b, ?_, ?_⟩
      · refine ⟨_, rfl, _, rfl, ed, _, rfl, dge, _, rfl, ?_⟩
        cases c : endO es z with
        | none =>
          refine iteF' (by rfl) ⟨rfl, s12, erl, wy, ad, S.2, wt, fun b => ?_, fun y _ b => rfl⟩
          unfold endP
          rw [c, if_neg (by simp)]
        | some b =>
          refine iteT' (by rfl) ⟨_, rfl, t, rs, rfl, ht.same S12, fun H13 s13 => ⟨_, rfl, (by show 2 ≤ sizeLine; decide), fun a1 ha1 => ⟨(by show 1 ≤ sizeLine; decide), fun n1 hn1 => ?_⟩⟩⟩
          have s14 : Same H13 (upd H13 a1 (.tup [V.int (endlessI rs), V.str z])) := Same.new ha1
          have e14 : (upd H13 a1 (.tup [V.int (endlessI rs), V.str z])) a1 = some (.tup [V.int (endlessI rs), V.str z]) := upd_same
          generalize upd H13 a1 (.tup [V.int (endlessI rs), V.str z]) = H14 at s14 e14 hn1
          have s15 : Same H14 (upd H14 n1 (.lst [V.ref a1])) := Same.new hn1
          have e15 : (upd H14 n1 (.lst [V.ref a1])) n1 = some (.lst [V.ref a1]) := upd_same
          generalize upd H14 n1 (.lst [V.ref a1]) = H15 at s15 e15
          have s124 := s13.trans s14
          have wt14 := wt.same s124
          have dge5 : DGet H15 ed (.str z) (some (.bl b)) := .inl ⟨_, .inr z, .inl (s15 _ _ (s124 _ _ (S12 _ _ hd))), rfl, by rw [kvE_val, c]; rfl⟩
          refine ⟨_, rfl, _, rfl, _, rfl, _, rfl, ed, _, rfl, dge5, (by show 2 ≤ sizeLine; decide), fun a2 ha2 => ?_⟩
          have s16 : Same H15 (upd H15 a2 (.tup [V.str z, V.bl b])) := Same.new ha2
          refine wt14.set (s15.trans s16) hn1 (s12.free (s124.free hn1)) (fun x => ?_) (fun x => ?_) ⟨[a1], s16 _ _ e15, .cons (b := ((endlessI rs, z) : Part)) (s16 _ _ (s15 _ _ e14)) .nil⟩ hzp upd_same fun H17 k17 wt17 => ?_
          · rw [x, s124 _ _ erl] at hn1; cases hn1
          · obtain ⟨ws, ew, _⟩ := wy
            rw [x, s124 _ _ ew] at hn1; cases hn1
          have s126 := s124.trans (s15.trans s16)
          obtain ⟨lD, hlD⟩ := (wt.same s126).dW
          have tp : TupS (upd H15 a2 (.tup [V.str z, V.bl b])) H17 := fun c xs e => k17 c _ (fun x => by rw [x, hlD] at e; cases e) e
          obtain ⟨ws, ew, pw⟩ := wy
          refine ⟨rfl, fun c o e => k17 _ _ (ne_of_none e hD) (s126 _ _ (s12 _ _ e)), k17 _ _ nrD (s126 _ _ erl), ⟨ws, k17 _ _ nwD (s126 _ _ ew), (pw.t (same_t s126)).t tp⟩, _, _, wt17, fun c' => ?_, fun y hy c' => if_neg fun x => hy x.1⟩
          show (if z = z ∧ c' = b then [(endlessI rs, z)] else S.2 z c') = endP rs es S.2 z c'
          unfold endP
          rw [c]
          by_cases q : c' = b
          · rw [if_pos ⟨rfl, q⟩, if_pos (by rw [q])]
          · rw [if_neg fun x => q x.2, if_neg fun x => q (Option.some.inj x).symm]
      rintro σ' H13 ⟨rfl, s13, erl13, wy13, ad, W, wt13, hW, hWo⟩
      clear wt wy dge S12 s12 erl
      have hel := end_len rs es S.2 z
      -- put together
      refine ⟨_, rfl, _, rfl, (by show 2 ≤ sizeLine; decide), fun a1 ha1 => ?_⟩
      have s14 : Same H13 (upd H13 a1 (.tup [V.str z, V.bl true])) := Same.new ha1
      refine (wt13.tab.same s14).get hzp upd_same ?_
      generalize upd H13 a1 (.tup [V.str z, V.bl true]) = H14 at s14
      refine ⟨_, rfl, _, rfl, (by show 2 ≤ sizeLine; decide), fun a2 ha2 => ?_⟩
      have s15 : Same H14 (upd H14 a2 (.tup [V.str z, V.bl false])) := Same.new ha2
      refine (wt13.tab.same (s14.trans s15)).get hzp upd_same ?_
      have s135 := s14.trans s15
      generalize upd H14 a2 (.tup [V.str z, V.bl false]) = H15 at s135
      have wt15 := wt13.same s135
      refine ⟨ad z true, ad z false, endP rs es S.2 z true, endP rs es S.2 z false, rfl, by rw [← hW]; exact wt15.lst z hzp true, by rw [← hW]; exact wt15.lst z hzp false, by omega, fun Tq Wf A_ B_ H16 s16 eT wW pA pB oA oB => ?_⟩
      refine ⟨Tq, _, rfl, sqT eT, rfl, _, _, rfl, _, _, rfl, _, _, rfl, rfl, ?_⟩
      have wt16 := wt15.same s16
      have wy16 := wy13.same (s135.trans s16)
      have s136 := s13.trans (s135.trans s16)
      have erl16 := (s135.trans s16) _ _ erl13
      obtain ⟨ws, ew, pw⟩ := wy16
      obtain ⟨fs, ef, pf⟩ := wW
      have hml := meet_len rs es S.2 z
      have eM : pairL (endP rs es S.2 z true) (endP rs es S.2 z false) = meetP rs es S.2 z := rfl
      rw [eM] at pf pA pB
      have lws : ws.length = S.1.length := pw.length
      have lfs : fs.length = (meetP rs es S.2 z).1.length := pf.length
      refine ⟨_, rfl, .inl ⟨rfl, _, SqL.of ew⟩, _, rfl, wl, Wf, _, _, rfl, rfl, ew, ef, Nat.le_of_lt (small1000 (by rw [List.length_map, List.length_map]; omega)), ?_⟩
      have k17 : ∀ c o, c ≠ wl → H16 c = some o → (upd H16 wl (.lst (ws.map V.ref ++ fs.map V.ref))) c = some o := fun c o n e => by rw [upd_ne n]; exact e
      have t17 : TupS H16 (upd H16 wl (.lst (ws.map V.ref ++ fs.map V.ref))) := TupS.upd ew fun xs e => nomatch e
      have wy17 : WyL (upd H16 wl (.lst (ws.map V.ref ++ fs.map V.ref))) wl (S.1 ++ (meetP rs es S.2 z).1) := ⟨ws ++ fs, by rw [upd_same, List.map_append], (pw.t t17 : WyA _ ws S.1).app (pf.t t17)⟩
      have wt17 := wt16.oth k17 ew nwD.symm
      have erl17 := k17 _ _ nrw erl16
      have s17 : Same H5 (upd H16 wl (.lst (ws.map V.ref ++ fs.map V.ref))) := fun c o e => k17 _ _ (ne_of_none e hwl5) (s136 _ _ e)
      have nA : A_ ≠ wl := fun x => by
        rcases oA with e | e
        · exact (wt13.new z hzp true).2.2 (e.symm.trans x)
        · obtain ⟨_, ew13, _⟩ := wy13
          rw [x, s135 _ _ ew13] at e; cases e
      have nB : B_ ≠ wl := fun x => by
        rcases oB with e | e
        · exact (wt13.new z hzp false).2.2 (e.symm.trans x)
        · obtain ⟨_, ew13, _⟩ := wy13
          rw [x, s135 _ _ ew13] at e; cases e
      have pA17 : PtL (upd H16 wl (.lst (ws.map V.ref ++ fs.map V.ref))) A_ (meetP rs es S.2 z).2.1 := let ⟨as, e1, e2⟩ := pA; ⟨as, k17 _ _ nA e1, e2.t t17⟩
      have pB17 : PtL (upd H16 wl (.lst (ws.map V.ref ++ fs.map V.ref))) B_ (meetP rs es S.2 z).2.2 := let ⟨as, e1, e2⟩ := pB; ⟨as, k17 _ _ nB e1, e2.t t17⟩
      clear k17 t17 wt16 s16 eT pA pB ew pw ef pf erl16 s136 ha1 ha2 s14 s15
      generalize upd H16 wl (.lst (ws.map V.ref ++ fs.map V.ref)) = H17 at wy17 wt17 erl17 s17 pA17 pB17
      refine ⟨_, rfl, rfl, _, rfl, ?_⟩
      rcases hzc with ⟨rfl, ei⟩ | ⟨m, r, rfl, _, hr', e1, e2⟩
      · refine iteF' (by simp) ⟨_, _, _, _, rfl, s17, erl17, .inr ⟨by omega, ?_⟩⟩
        rw [ei, Nat.sub_self, List.drop_zero] at eS
        rw [eS] at wy17
        exact wy17
      have hrm := List.mem_of_getElem? hr'
      have hm : m < rs.length := (List.getElem?_eq_some_iff.mp hr').1
      have hfit := hv m r hr'
      have nt : r.nm ≠ ("top" : Str) := hfit.top
      have eps2 : ps = plc (rs.take m) ++ [r.nm] := by rw [eps, e1, take_more hr', plc_snoc]
      have fop : r.fo ∈ ps := by rw [eps2]; exact List.mem_append_left _ (fo_pre hfit)
      have nbf : r.nm ≠ r.fo := fun x => nm_pre hfit (by rw [x]; exact fo_pre hfit)
      have edrop : rs.drop m = r :: rs.drop (m + 1) := by
        rw [List.drop_eq_getElem_cons hm]
        rw [List.getElem?_eq_getElem hm] at hr'
        rw [Option.some.inj hr']
      have eS2 : waysS rs es (rs.drop m) = stepW rs es r S := by rw [edrop, eS, e1]; rfl
      have S17 := S5.trans s17
      have hwf := wlen_mem (g := wLen S.2) fop
      unfold wLen at hwf
      refine iteT' (by rw [decide_eq_false (fun e => nt (V.str.inj e))]; rfl) ?_
      -- what the step bears, from on
      have dgs : ∀ {Hx : Hp}, Same H5 Hx → DGet Hx sd (.str r.nm) (some (.int (stepR rs r))) := fun {Hx} s => .inl ⟨_, .inr r.nm, .inl (s _ _ esd5), rfl, (kvF_val (g := fun r => .int (stepR rs r)) hv hrm).symm⟩
      refine ⟨_, rfl, _, rfl, t, dx, _, rfl, S17 _ _ h1, noF, _, rfl, t, r.nm, rs, r, rfl, ht.same S17, rowOf_at hv hr', (by show 2 ≤ sizeLine; decide), fun a3 ha3 => ?_⟩
      have s18 : Same H17 (upd H17 a3 (.tup [V.str r.fo, V.bl true])) := Same.new ha3
      have wt18 := wt17.same s18
      refine wt18.tab.get fop upd_same ?_
      generalize upd H17 a3 (.tup [V.str r.fo, V.bl true]) = H18 at s18 wt18
      obtain ⟨cs, ec, pc⟩ := wt18.lst r.fo fop true
      refine ⟨.inl ⟨rfl, _, SqL.of ec⟩, ?_⟩
      refine ⟨_, rfl, _, rfl, _, rfl, sd, _, rfl, dgs (s17.trans s18), A_, stepR rs r, _, rfl, pA17.same s18, by omega, fun b1 H19 hb1 s19 pb1 => ?_⟩
      obtain ⟨bs, eb, pb⟩ := pb1
      have ll1 := let_len (meetP rs es S.2 r.nm).2.1 (stepR rs r)
      have ll2 := let_len (meetP rs es S.2 r.nm).2.2 (stepR rs r)
      have lcs : cs.length = (W r.fo true).length := pc.length
      have lbs : bs.length = (letL (meetP rs es S.2 r.nm).2.1 (stepR rs r)).length := pb.length
      have oW : ∀ b, W r.fo b = S.2 r.fo b := hWo r.fo nbf.symm
      rw [oW] at lcs
      have wt19 := wt18.same s19
      have ec19 := s19 _ _ ec
      refine ⟨ad r.fo true, b1, _, _, rfl, rfl, ec19, eb, Nat.le_of_lt (small1000 (by rw [List.length_map, List.length_map]; omega)), ?_⟩
      have wt20 := wt19.ext fop ec19 pb
      have k20 : ∀ c o, c ≠ ad r.fo true → H19 c = some o → (upd H19 (ad r.fo true) (.lst (cs.map V.ref ++ bs.map V.ref))) c = some o := fun c o n e => by rw [upd_ne n]; exact e
      have t20 : TupS H19 (upd H19 (ad r.fo true) (.lst (cs.map V.ref ++ bs.map V.ref))) := TupS.upd ec19 fun xs e => nomatch e
      have new1 := wt13.new r.fo fop true
      have new2 := wt13.new r.fo fop false
      have s189 := s18.trans s19
      have S20 : Same H5 (upd H19 (ad r.fo true) (.lst (cs.map V.ref ++ bs.map V.ref))) := fun c o e => k20 _ _ (ne_of_none e new1.1) (s189 _ _ (s17 _ _ e))
      have erl20 := k20 _ _ new1.2.1.symm (s189 _ _ erl17)
      have wy20 : WyL (upd H19 (ad r.fo true) (.lst (cs.map V.ref ++ bs.map V.ref))) wl (S.1 ++ (meetP rs es S.2 r.nm).1) := let ⟨as, e1, e2⟩ := wy17.same s189; ⟨as, k20 _ _ new1.2.2.symm e1, e2.t t20⟩
      have nBa : B_ ≠ ad r.fo true := fun x => by
        rcases oB with e | e
        · exact nbf (wt13.inj r.nm hzp r.fo fop false true (e.symm.trans x)).1
        · obtain ⟨as, e3, _⟩ := wt15.lst r.fo fop true
          rw [x, e3] at e; cases e
      have pB20 : PtL (upd H19 (ad r.fo true) (.lst (cs.map V.ref ++ bs.map V.ref))) B_ (meetP rs es S.2 r.nm).2.2 := let ⟨as, e1, e2⟩ := pB17.same s189; ⟨as, k20 _ _ nBa e1, e2.t t20⟩
      clear k20 t20 s189 wt19 wt18 s19 s18 ec ec19 pc eb pb hb1 ha3 pB17 wy17 erl17 wt17 pA17
      generalize upd H19 (ad r.fo true) (.lst (cs.map V.ref ++ bs.map V.ref)) = H20 at wt20 S20 erl20 wy20 pB20
      -- and from off
      have S20H := S5.trans S20
      refine ⟨_, rfl, _, rfl, t, dx, _, rfl, S20H _ _ h1, noF, _, rfl, t, r.nm, rs, r, rfl, ht.same S20H, rowOf_at hv hr', (by show 2 ≤ sizeLine; decide), fun a4 ha4 => ?_⟩
      have s21 : Same H20 (upd H20 a4 (.tup [V.str r.fo, V.bl false])) := Same.new ha4
      have wt21 := wt20.same s21
      refine wt21.tab.get fop upd_same ?_
      generalize upd H20 a4 (.tup [V.str r.fo, V.bl false]) = H21 at s21 wt21
      obtain ⟨cs2, ec2, pc2⟩ := wt21.lst r.fo fop false
      rw [if_neg (show ¬ (r.fo = r.fo ∧ false = true) from fun x => nomatch x.2)] at pc2
      refine ⟨.inl ⟨rfl, _, SqL.of ec2⟩, ?_⟩
      refine ⟨_, rfl, _, rfl, _, rfl, sd, _, rfl, dgs (S20.trans s21), B_, stepR rs r, _, rfl, pB20.same s21, by omega, fun b2 H22 hb2 s22 pb2 => ?_⟩
      obtain ⟨bs2, eb2, pb2'⟩ := pb2
      have lcs2 : cs2.length = (W r.fo false).length := pc2.length
      have lbs2 : bs2.length = (letL (meetP rs es S.2 r.nm).2.2 (stepR rs r)).length := pb2'.length
      rw [oW] at lcs2
      have wt22 := wt21.same s22
      have ec22 := s22 _ _ ec2
      refine ⟨ad r.fo false, b2, _, _, rfl, rfl, ec22, eb2, Nat.le_of_lt (small1000 (by rw [List.length_map, List.length_map]; omega)), ?_⟩
      have wt23 := wt22.ext fop ec22 pb2'
      have k23 : ∀ c o, c ≠ ad r.fo false → H22 c = some o → (upd H22 (ad r.fo false) (.lst (cs2.map V.ref ++ bs2.map V.ref))) c = some o := fun c o n e => by rw [upd_ne n]; exact e
      have t23 : TupS H22 (upd H22 (ad r.fo false) (.lst (cs2.map V.ref ++ bs2.map V.ref))) := TupS.upd ec22 fun xs e => nomatch e
      have s212 := s21.trans s22
      refine ⟨_, _, _, _, rfl, fun c o e => k23 _ _ (ne_of_none e new2.1) (s212 _ _ (S20 _ _ e)), k23 _ _ new2.2.1.symm (s212 _ _ erl20), .inl ⟨by omega, ad, ?_, ?_⟩⟩
      · rw [e2, eS2]
        refine (wt23.sub (qs := plc (rs.take m)) fun y hy => by rw [eps2]; exact List.mem_append_left _ hy).imp fun y hy c => ?_
        have ny : y ≠ r.nm := fun x => nm_pre hfit (by rw [← x]; exact hy)
        show (if y = r.fo ∧ c = false then (if y = r.fo ∧ c = true then W y c ++ letL (meetP rs es S.2 r.nm).2.1 (stepR rs r) else W y c) ++ letL (meetP rs es S.2 r.nm).2.2 (stepR rs r) else if y = r.fo ∧ c = true then W y c ++ letL (meetP rs es S.2 r.nm).2.1 (stepR rs r) else W y c) = if y = r.fo then S.2 y c ++ letL (sideP (meetP rs es S.2 r.nm) c) (stepR rs r) else S.2 y c
        rw [hWo y ny]
        by_cases q : y = r.fo
        · cases c <;> simp [q, sideP]
        · simp [q]
      · rw [e2, eS2]
        obtain ⟨as, e3, e4⟩ := wy20.same s212
        exact ⟨as, k23 _ _ new2.2.2.symm e3, e4.t t23⟩
    rintro σ H12 ⟨v3, v6, v7, v8, rfl, s12, erl, hst⟩
    rw [List.length_append, List.length_reverse, ln] at hst
    rcases hst with ⟨hh, _⟩ | ⟨_, wy⟩
    · exact absurd hh (by show ¬ rs.length + 1 ≤ rs.length; omega)
    exact ⟨_, rfl, hq wl H12 (S5.free hwl5) (S5.trans s12) wy⟩
end
end Ts

set_option maxRecDepth 100000
set_option maxHeartbeats 8000000
namespace Ts
open PySem L2
structure TxH (K : PySem.W.Frag) (mg : Str → Option Value) (CH : Addr) : Prop where
  cl : Cls K CH
  nc : NoAttr K CH "cost"
  nw : NoAttr K CH "wide"
  nn : NoAttr K CH "narrow"
  ny : NoAttr K CH "ways"
  g : mg "Cheapest" = some (.ref CH)
def chf (c w n y : V) : List (Str × V) := putF "ways" y (putF "narrow" n (putF "wide" w (putF "cost" c [])))
theorem chf_c (c w n y : V) : (chf c w n y).lookup ("cost" : Str) = some c := by unfold chf; rfl
theorem chf_w (c w n y : V) : (chf c w n y).lookup ("wide" : Str) = some w := by unfold chf; rfl
theorem chf_n (c w n y : V) : (chf c w n y).lookup ("narrow" : Str) = some n := by unfold chf; rfl
theorem chf_y (c w n y : V) : (chf c w n y).lookup ("ways" : Str) = some y := by unfold chf; rfl
def spChInit (CH : Addr) : Sp := fun vs H Q _ => ∃ (m dx : Addr) (c w n y : V), vs = [.ref m, c, w, n, y] ∧ H m = some (.ins CH dx []) ∧ ∀ H', SB m H H' → H' m = some (.ins CH dx (chf c w n y)) → Q .non H'
/-- what is cheapest, as it stands -/
structure CheAt (C CM CH : Addr) (H : Hp) (c t : Addr) (rs : List Row) (ee : Wsh) : Prop where
  ex : ∃ dx mw mn wl : Addr, H c = some (.ins CH dx (chf (.int (cheapI rs ee)) (.ref mw) (.ref mn) (.ref wl))) ∧ MV C CM H mw t rs (favV rs (tabF rs ee) true) ∧ MV C CM H mn t rs (favV rs (tabF rs ee) false) ∧ WyL H wl (waysF rs ee)
theorem CheAt.same {C CM CH : Addr} {H H' : Hp} {c t : Addr} {rs : List Row} {ee : Wsh} (h : CheAt C CM CH H c t rs ee) (s : Same H H') : CheAt C CM CH H' c t rs ee := let ⟨dx, mw, mn, wl, h1, h2, h3, h4⟩ := h.ex; ⟨⟨dx, mw, mn, wl, s _ _ h1, h2.same s, h3.same s, h4.same s⟩⟩
def spCheapest (C CM CB CH : Addr) : Sp := fun vs H Q E => ∃ (t wd : Addr) (rs : List Row) (es : Wsh) (d : Option Bool), vs = [.ref t, .ref wd, dfV d] ∧ TreeAt C H t rs ∧ H wd = some (.dK (kvE es)) ∧ EndsOk rs es ∧ es.length ≤ 150 ∧
  (OkW rs es d → ∀ c H', Same H H' → CheAt C CM CH H' c t rs (topE d es) → Q (.ref c) H') ∧ ∀ x y, BarW rs es d x y → ∀ e H', H e = none → Same H H' → H' e = some (.xd [("other", .str y), ("one", .str x)]) → E (.ref CB) (some e) H'
theorem ok_or_bar (rs : List Row) (es : Wsh) (d : Option Bool) : OkW rs es d ∨ ∃ x y, BarW rs es d x y := by
  by_cases h1 : ∀ b, endO es "top" = some b → d ≠ some (!b)
  · by_cases h2 : OpenE rs (topE d es)
    · exact .inl ⟨h1, h2⟩
    · refine .inr ?_
      unfold OpenE at h2
      simp only [Classical.not_forall] at h2
      obtain ⟨e, he, e', he', hl, hn⟩ := h2
      cases c : e.2
      · have c' : e'.2 = true := by cases q : e'.2 <;> simp_all
        exact ⟨e'.1, e.1, .inr ⟨h1, by rw [← c']; exact he', by rw [← c]; exact he, hl.symm⟩⟩
      · have c' : e'.2 = false := by cases q : e'.2 <;> simp_all
        exact ⟨e.1, e'.1, .inr ⟨h1, by rw [← c]; exact he, by rw [← c']; exact he', hl⟩⟩
  · simp only [Classical.not_forall, Classical.not_not] at h1
    obtain ⟨b, hb, hd⟩ := h1
    exact .inr ⟨_, _, .inl ⟨rfl, rfl, b, hb, hd⟩⟩
section
variable {P : Program} {w : World} {K : PySem.W.Frag} {mg : Str → Option Value} {base : Heap} {C CM CB CH : Addr}
abbrev nCI : List Str := ["self", "cost", "wide", "narrow", "ways"]
theorem sc_ChInit : FnScope nCI nCI (defScope s_Cheapest_init) := ⟨rfl, rfl, rfl, by decide +kernel, rfl, by decide +kernel, by decide +kernel⟩
theorem ok_Ch_init {f : Addr} {fd : FuncData} (F : Fun K "__init__" "Cheapest.__init__" s_Cheapest_init f fd) (X : TxH K mg CH) : FnOk P w K mg base CX0 1 f fd nCI (spChInit CH) := by
  refine F.ok sc_ChInit (fun vs H Q E h => ?_) (fun cdv A outer s H vs Q E hr h => ?_)
  · obtain ⟨m, dx, c, w_, n, y, rfl, _⟩ := h
    rfl
  · obtain ⟨m, dx, c, w_, n, y, rfl, hm, hq⟩ := h
    refine ⟨_, pss_cons (ps_fld (pv 0) (pv 1) rfl) (pss_cons (ps_fld (pv 0) (pv 2) rfl) (pss_cons (ps_fld (pv 0) (pv 3) rfl) (pss_one (ps_fld (pv 0) (pv 4) rfl)))), ?_⟩
    refine ⟨_, rfl, _, rfl, m, CH, dx, _, rfl, hm, X.cl, X.nc, (by show 0 < 1000; decide), ?_⟩
    refine ⟨_, rfl, _, rfl, m, CH, dx, _, rfl, upd_same, X.cl, X.nw, (Nat.lt_of_le_of_lt (putF_len _ _ _) (by decide)), ?_⟩
    refine ⟨_, rfl, _, rfl, m, CH, dx, _, rfl, upd_same, X.cl, X.nn, (Nat.lt_of_le_of_lt (putF_len _ _ _) (Nat.lt_of_le_of_lt (Nat.succ_le_succ (putF_len _ _ _)) (by decide))), ?_⟩
    refine ⟨_, rfl, _, rfl, m, CH, dx, _, rfl, upd_same, X.cl, X.ny, (Nat.lt_of_le_of_lt (putF_len _ _ _) (Nat.lt_of_le_of_lt (Nat.succ_le_succ (putF_len _ _ _)) (Nat.lt_of_le_of_lt (Nat.succ_le_succ (Nat.succ_le_succ (putF_len _ _ _))) (by decide)))), ?_⟩
    exact hq _ (fun b o n e => by rw [upd_ne n, upd_ne n, upd_ne n, upd_ne n]; exact e) upd_same
abbrev nCp : List Str := ["tree", "wish", "default", "ends", "prices", "numbers", "cost"]
theorem sc_cheapest : FnScope nCp ["tree", "wish", "default"] (defScope s_cheapest) := ⟨rfl, rfl, rfl, by decide +kernel, rfl, by decide +kernel, by decide +kernel⟩
theorem ok_cheapest {f fH : Addr} {fd fdH : FuncData} {dvs : List V} (F : FunD K "cheapest" "cheapest" (defArgs s_cheapest) (defBody s_cheapest) (defScope s_cheapest) dvs [] f fd) (TC : TxC K mg) (hM : mg "min" = none)
    (Do : DefAt K mg "open_ends" s_open_ends ["tree", "wish", "default"]) (Go : FnOk P w K mg base (L2.CX P w) 7 Do.f Do.fd ["tree", "wish", "default"] (spOpenEnds C CB))
    (Dc : DefAt K mg "choices" s_choices ["tree", "ends"]) (Gc : FnOk P w K mg base CX0 8 Dc.f Dc.fd ["tree", "ends"] (spChoices P w C))
    (Df : DefAt K mg "favoured" s_favoured ["tree", "prices", "favour"]) (Gf : FnOk P w K mg base CX0 10 Df.f Df.fd ["tree", "prices", "favour"] (spFav P w C CM))
    (Dw : DefAt K mg "ways_between" s_ways_between ["tree", "ends"]) (Gw : FnOk P w K mg base CX0 8 Dw.f Dw.fd ["tree", "ends"] (spWays C))
    (X : TxH K mg CH) (MH : Mk K CH fH) (bH : Binds K fdH nCI []) (GH : FnOk P w K mg base CX0 1 fH fdH nCI (spChInit CH)) : FnOk P w K mg base (L2.CX P w) 11 f fd ["tree", "wish", "default"] (spCheapest C CM CB CH) := by
  obtain ⟨t1, gT⟩ := TC.top
  refine F.ok sc_cheapest (fun vs H Q E h => ?_) (fun cdv A outer s H vs Q E hr h => ?_)
  · obtain ⟨t, wd, rs, es, d, rfl, _⟩ := h
    rfl
  · obtain ⟨t, wd, rs, es, d, rfl, ht, hd, hok, hl, hq, hE⟩ := h
    have hu := hu_of hr
    have r1 : Room 2 _ := hr.mono (by decide)
    have r7 : Room 7 _ := hr.mono (by decide)
    have r8 : Room 8 _ := hr.mono (by decide)
    have hv := ht.val
    have topm : ("top" : Str) ∈ plc rs := mem_plc.mpr (.inl rfl)
    refine ⟨_, pss_cons (ps_set (i := 3) sc_cheapest.nd rfl (.inl rfl) (pe_call Go r7 rfl Do.g Do.F.kp Do.b .nil (passes_call (takes_of rfl rfl rfl rfl) (fun _ _ _ _ h => h)) (pa_cons (pv 0) (pa_cons (pv 1) (pa_cons (pv 2) pa_nil)))))
      (pss_cons (ps_asg (pe_call Gc r8 rfl Dc.g Dc.F.kp Dc.b .nil pass0 (pa_cons (pv 0) (pa_cons (pv 3) pa_nil))) (pg_tup rfl (pgs_cons (pg_name (i := 4) sc_cheapest.nd rfl (.inl rfl)) (pgs_cons (pg_name (i := 5) sc_cheapest.nd rfl (.inl rfl)) pgs_nil))))
      (pss_cons (ps_set (i := 6) sc_cheapest.nd rfl (.inl rfl) (pe_callB (call_min2 rfl) (by rfl) hM (by decide +kernel) (pa_cons (pe_getP hu (pv 4) (pe_tup (pa_cons (pe_glob (by rfl) gT (v := .str ("top" : Str)) ⟨_, rfl⟩) (pa_cons pe_bl pa_nil))) (fun _ _ => rfl)) (pa_cons (pe_getP hu (pv 4) (pe_tup (pa_cons (pe_glob (by rfl) gT (v := .str ("top" : Str)) ⟨_, rfl⟩) (pa_cons pe_bl pa_nil))) (fun _ _ => rfl)) pa_nil))))
      (pss_one (ps_ret (pe_make MH GH r1 rfl X.g bH .nil pass0 (pa_cons (pv 6) (pa_cons (pe_call Gf hr rfl Df.g Df.F.kp Df.b .nil pass0 (pa_cons (pv 0) (pa_cons (pv 4) (pa_cons pe_bl pa_nil)))) (pa_cons (pe_call Gf hr rfl Df.g Df.F.kp Df.b .nil pass0 (pa_cons (pv 0) (pa_cons (pv 4) (pa_cons pe_bl pa_nil)))) (pa_cons (pe_call Gw r8 rfl Dw.g Dw.F.kp Dw.b .nil pass0 (pa_cons (pv 0) (pa_cons (pv 3) pa_nil))) pa_nil))))))))), ?_⟩
    refine ⟨_, rfl, _, rfl, _, rfl, t, wd, rs, es, d, rfl, ht, hd, hok, hl, fun ho D H1 hD s1 e1 => ?_, fun x y hxy e H1 he s1 e1 => hE x y hxy e H1 he s1 e1⟩
    have hok2 := topE_ok hok hl d
    have ht1 := ht.same s1
    refine ⟨_, rfl, _, rfl, t, D, rs, topE d es, rfl, ht1, e1, hok2, fun Tq A_ B_ H2 s2 eT tA tB => ?_⟩
    refine ⟨Tq, _, rfl, sqT eT, rfl, _, _, rfl, _, _, rfl, rfl, ?_⟩
    refine ⟨_, rfl, (by show 2 ≤ sizeLine; decide), fun a1 ha1 => ?_⟩
    have s3 : Same H2 (upd H2 a1 (.tup [V.str ("top" : Str), V.bl false])) := Same.new ha1
    refine (tA.same s3).get topm upd_same ?_
    generalize upd H2 a1 (.tup [V.str ("top" : Str), V.bl false]) = H3 at s3
    refine ⟨_, rfl, (by show 2 ≤ sizeLine; decide), fun a2 ha2 => ?_⟩
    have s4 : Same H3 (upd H3 a2 (.tup [V.str ("top" : Str), V.bl true])) := Same.new ha2
    refine (tA.same (s3.trans s4)).get topm upd_same ?_
    have s24 := s3.trans s4
    generalize upd H3 a2 (.tup [V.str ("top" : Str), V.bl true]) = H4 at s24
    refine ⟨_, _, rfl, ?_⟩
    rw [min_if]
    have S4 := s1.trans (s2.trans s24)
    obtain ⟨g1, g2, g3⟩ := fav_good hv hok2 ho.2 true
    obtain ⟨g4, g5, g6⟩ := fav_good hv hok2 ho.2 false
    refine ⟨_, rfl, _, rfl, _, rfl, t, A_, rs, _, true, rfl, ht.same S4, tA.same s24, g1, fun mw H5 s5 hmw => ?_⟩
    refine ⟨_, rfl, _, rfl, t, A_, rs, _, false, rfl, ht.same (S4.trans s5), (tA.same s24).same s5, g4, fun mn H6 s6 hmn => ?_⟩
    refine ⟨_, rfl, _, rfl, t, D, rs, topE d es, rfl, ht.same (S4.trans (s5.trans s6)), (s2.trans (s24.trans (s5.trans s6))) _ _ e1, hok2, fun wl H7 hwl s7 hwy => ?_⟩
    refine fun m dm nm nd _ => ⟨m, dm, _, _, _, _, rfl, upd_same, fun H8 sb8 hm => ⟨rfl, ?_⟩⟩
    have s78 := mk_same nm nd sb8
    exact hq ho m H8 (S4.trans (s5.trans (s6.trans (s7.trans s78)))) ⟨⟨dm, mw, mn, wl, hm, hmw.same (s6.trans (s7.trans s78)), hmn.same (s7.trans s78), hwy.same s78⟩⟩
end
end Ts

set_option maxRecDepth 100000
set_option maxHeartbeats 4000000
namespace Ts
open PySem L2
/-- what stands between two turns -/
structure RowsJ (a p fl nl : Addr) (H0 H : Hp) (ks : List Str) (ps : List (Option Int)) (m : Int) (i : Nat) (as : List Addr) (rs : List Row) (fs : List Str) : Prop where
  hp : H p = some (.lst (as.map V.ref))
  hf : H fl = some (.lst ((("top" : Str) :: fs).map V.str))
  fsub : ∀ z ∈ fs, z ∈ folderNames rs
  flen : fs.length ≤ i
  hn : H nl = some (.lst ((("top" : Str) :: rs.map (·.nm)).map V.str))
  rows : RowsAt H as rs
  val : Valid rs
  len : rs.length ≤ i
  mem : ∀ r ∈ rs, r.ki ∈ ks ∧ r.pr ∈ ps ∧ Drawn r.nm
  sb : SB a H0 H
  st : Stm H a m
theorem RowsJ.step {a p fl nl : Addr} {H0 H H' : Hp} {ks : List Str} {ps : List (Option Int)} {m m' : Int} {i j : Nat} {as : List Addr} {rs : List Row} {fs : List Str} (h : RowsJ a p fl nl H0 H ks ps m i as rs fs) (np : p ≠ a) (nf : fl ≠ a) (nn : nl ≠ a) (s : SB a H H') (hs : Stm H' a m') (hj : i ≤ j) :
    RowsJ a p fl nl H0 H' ks ps m' j as rs fs := by
  obtain ⟨x, y, z, e, _⟩ := id h.st
  exact ⟨s _ _ np h.hp, s _ _ nf h.hf, h.fsub, Nat.le_trans h.flen hj, s _ _ nn h.hn, h.rows.sb e s, h.val, Nat.le_trans h.len hj, h.mem, h.sb.trans s, hs⟩
section
variable {P : Program} {w : World} {K : PySem.W.Frag} {mg : Str → Option Value} {base : Heap}
theorem ok_rows (Dw : DefAt K mg "_law_way" s_L_way ["_law_rows_here", "_law_box"]) (D : DefAt K mg "_law_rows" s_L_rows ["_law_stream_here", "_law_many", "_law_kinds_here", "_law_prices_here"]) (Dn : DefAt K mg "_law_name" s_L_name ["_law_stream_here"]) (Dp : DefAt K mg "_law_pick" s_L_pick ["_law_stream_here", "_law_things"]) (Dd : DefAt K mg "_law_draw" s_L_draw ["_law_stream_here", "_law_many"]) (B : TxB mg) :
    FnOk P w K mg base CX0 5 D.f D.fd ["_law_stream_here", "_law_many", "_law_kinds_here", "_law_prices_here"] (spRows K) := by
  have Gp : FnOk P w K mg base CX0 3 Dp.f Dp.fd ["_law_stream_here", "_law_things"] (spPick K) := ok_pick Dp Dd B
  have Gn : FnOk P w K mg base CX0 4 Dn.f Dn.fd ["_law_stream_here"] spName := ok_name Dn Dp Dd B
  have Gw : FnOk P w K mg base CX0 2 Dw.f Dw.fd ["_law_rows_here", "_law_box"] spWay := ok_way Dw B
  refine D.F.ok sc_rows (fun vs H Q E h => ?_) (fun cdv A outer s H vs Q E hr h => ?_)
  · obtain ⟨a, kl, pl, many, n, ks, ps, rfl, _⟩ := h
    rfl
  · obtain ⟨a, kl, pl, many, n, ks, ps, rfl, hs, hn, hm0, hm1, hka, hpa, hks, hps, k1, k2, p1, p2, hkok, hpok, hq⟩ := h
    have hr2 : Room 3 _ := hr.mono (by decide)
    have hr1 : Room 2 _ := hr.mono (by decide)
    refine ⟨_, pss_cons (ps_par3 (i := 4) (j := 5) (l := 6) rfl sc_rows.nd rfl rfl rfl (by decide) (by decide) (by decide) rfl rfl rfl (pa_cons (pe_lst pa_nil) (pa_cons (pe_lst (pa_cons pe_str pa_nil)) (pa_cons (pe_lst (pa_cons pe_str pa_nil)) pa_nil))) (by rfl))
      (pss_cons (ps_for PassesOwn.never rfl (pi_range1 (by rfl) B.range (pa_cons (pv 1) pa_nil)) (pg_name (i := 7) sc_rows.nd rfl (Or.inl rfl))
        (pss_cons (ps_set (i := 8) sc_rows.nd rfl (.inl rfl) (pe_call Gn hr rfl Dn.g Dn.F.kp Dn.b .nil pass0 (pa_cons (pv 0) pa_nil)))
        (C8.pss_cut (ps_if (pt_cmpR op_in_seq (pv 8) (pv 6) (by rfl)) (pss_one (ps_set (i := 8) sc_rows.nd rfl (.inl rfl) (pe_op op_add_str (pe_op op_add_str pe_str (pe_item_str pe_str (pe_op op_mod (pv 7) pe_int) (fun _ _ => rfl))) (pe_item_str pe_str (pe_op op_mod (pe_op op_fdiv (pv 7) pe_int) pe_int) (fun _ _ => rfl))))) pss_nil)
        (pss_cons (ps_par (i := 9) (j := 10) rfl sc_rows.nd rfl rfl (by decide) rfl rfl (pa_cons (pe_call Gp hr2 rfl Dp.g Dp.F.kp Dp.b .nil pass0 (pa_cons (pv 0) (pa_cons (pv 2) pa_nil))) (pa_cons (pe_call Gp hr2 rfl Dp.g Dp.F.kp Dp.b .nil pass0 (pa_cons (pv 0) (pa_cons (pe_op op_cat (pe_slice sl_list (pv 5) (po_some (pe_un un_neg pe_int)) po_none) (pe_lst (pa_cons pe_str pa_nil))) pa_nil))) pa_nil)) (by rfl))
        (pss_one (ps_if (pt_cmpR op_notIn_seq (pv 8) (pv 6) (by rfl))
          (pss_cons (ps_expr (pe_bm PySem.F.plainAttrs_list PySem.F.slot_list_append PySem.F.type_list_append mt_append (pv 6) (pa_cons (pv 8) pa_nil)))
          (pss_cons (ps_expr (pe_bm PySem.F.plainAttrs_list PySem.F.slot_list_append PySem.F.type_list_append mt_append (pv 4) (pa_cons (pe_tup (pa_cons (pv 8) (pa_cons (pv 10) (pa_cons (pv 9) (pa_cons (pe_call Gp hr2 rfl Dp.g Dp.F.kp Dp.b .nil pass0 (pa_cons (pv 0) (pa_cons (pv 3) pa_nil))) pa_nil))))) pa_nil)))
          (pss_one (ps_if (PW.pt (pw_and (pt_cmpR op_eq (pv 9) pe_str (nomark _)) (pw_and1 (pt_cmpR op_lt (pe_callB call_len_seq (by rfl) B.len PySem.boot_len (pa_cons (pe_call Gw hr1 rfl Dw.g Dw.F.kp Dw.b .nil pass0 (pa_cons (pv 4) (pa_cons (pv 8) pa_nil))) pa_nil)) pe_int (nomark _))))) (pss_one (ps_expr (pe_bm PySem.F.plainAttrs_list PySem.F.slot_list_append PySem.F.type_list_append mt_append (pv 5) (pa_cons (pv 8) pa_nil)))) pss_nil)))) pss_nil))))))
      (pss_one (ps_ret (pv 4)))), ?_⟩
    refine ⟨Nat.zero_le _, fun p hp => ⟨(by show 1 ≤ sizeLine; decide), fun fl hfl => ⟨(by show 1 ≤ sizeLine; decide), fun nl hnl => ⟨_, _, _, rfl, ?_⟩⟩⟩⟩
    have hpf : p ≠ fl := fun q => by rw [← q, upd_same] at hfl; cases hfl
    have hfn : fl ≠ nl := fun q => by rw [← q, upd_same] at hnl; cases hnl
    have hpn : p ≠ nl := fun q => by rw [← q, upd_ne hpf, upd_same] at hnl; cases hnl
    have sp : Same H (upd (upd (upd H p (.lst [])) fl (.lst [V.str ("top" : Str)])) nl (.lst [V.str ("top" : Str)])) := (Same.new hp).trans ((Same.new hfl).trans (Same.new hnl))
    have pa : p ≠ a := (hs.ne hp).symm
    have fa : fl ≠ a := ((hs.upd hp).ne hfl).symm
    have na : nl ≠ a := (((hs.upd hp).upd hfl).ne hnl).symm
    refine ⟨_, rfl, many, rfl, by omega, by omega, ?_⟩
    refine for_range (lo := 0) (n := many.toNat) (fun i σ H' => ∃ (as : List Addr) (rs : List Row) (fs : List Str) (vk vn vki vf : Option V), σ = [some (.ref a), some (.int many), some (.ref kl), some (.ref pl), some (.ref p), some (.ref fl), some (.ref nl), vk, vn, vki, vf] ∧ RowsJ a p fl nl H H' ks ps (n + 13 * i) i as rs fs) ?_ ?_ ?_
    · refine ⟨[], [], [], none, none, none, none, rfl, ⟨?_, ?_, (fun z hz => by cases hz), Nat.le_refl _, upd_same, RowsAt.nil, Valid.nil, Nat.le_refl _, (fun r hr => by cases hr), SB.of sp, by simpa using hs.same sp⟩⟩
      · rw [upd_ne hpn, upd_ne hpf, upd_same]; rfl
      · rw [upd_ne hfn, upd_same]; rfl
    · rintro i σ H1 hi ⟨as, rs, fs, vk, vn, vki, vf, rfl, R⟩
      have hi40 : i < 40 := by omega
      have hrl := R.len
      refine ⟨_, rfl, a, _, rfl, R.st, by omega, fun z H2 hz hs2 sb2 => ?_⟩
      have R2 := R.step pa fa na sb2 hs2 (Nat.le_refl i)
      refine ⟨fun σ' H' => ∃ (z : Str), Drawn z ∧ σ' = [some (.ref a), some (.int many), some (.ref kl), some (.ref pl), some (.ref p), some (.ref fl), some (.ref nl), some (.int (0 + i)), some (.str z), vki, vf] ∧ H' = H2, ?_, ?_⟩
      · refine ⟨_, rfl, _, rfl, nl, _, rfl, .inl (SqL.of R2.hn), rfl, flat_strs _, _, rfl, ?_⟩
        refine ite2 (fun _ => ?_) (fun _ => ?_)
        · obtain ⟨c, hc, lc⟩ := sign_at low_aj (r := (0 + (i : Int)) % 10) (by omega) (by rw [len_aj]; omega)
          obtain ⟨d, hd, ld⟩ := sign_at low_kp (r := ((0 + (i : Int)) / 10) % 6) (by omega) (by rw [len_kp]; omega)
          refine ⟨_, rfl, _, _, rfl, rfl, (by show (0 : Int) < 10; decide), _, _, c, rfl, rfl, by omega, by omega, by rw [len_aj]; omega, hc, _, _, rfl, rfl, (by show 2 ≤ sizeLine; decide), ?_⟩
          refine ⟨_, rfl, _, _, rfl, rfl, ⟨by decide, by decide⟩, _, _, rfl, rfl, (by show (0 : Int) < 6; decide), _, _, d, rfl, rfl, by omega, by omega, by rw [len_kp]; omega, hd, _, _, rfl, rfl, (by show 3 ≤ sizeLine; decide), ?_⟩
          exact ⟨_, ⟨.inr (.inr (.inl (by rw [len_cat, len_cat, len_q]; rfl))), low_cat (low_cat low_q lc) ld⟩, rfl, rfl⟩
        · exact ⟨z, hz, rfl, rfl⟩
      · rintro σ' H' ⟨z, hz, rfl, rfl⟩
        refine ⟨_, rfl, _, rfl, .inl ⟨a, kl, _, _, rfl, R2.st, by omega, hka, R2.sb.seqL hka hks, by simpa using k1, by simp; omega, fun v H3 hv hs3 sb3 _ => ?_⟩⟩
        obtain ⟨ki, hki, rfl⟩ := List.mem_map.mp hv
        have R3 := R2.step pa fa na sb3 hs3 (Nat.le_refl i)
        refine ⟨_, rfl, _, rfl, _, rfl, _, rfl, fl, _, rfl, SqL.of R3.hf, fun q1 hq1 => ⟨(by show 1 ≤ sizeLine; decide), fun q2 hq2 => ?_⟩⟩
        have q12 : q1 ≠ q2 := fun e => by rw [← e, upd_same] at hq2; cases hq2
        have hcl := cutV_length ((("top" : Str) :: fs).map V.str) (some (-4)) none
        have hfle : fs.length ≤ rs.length + 40 := by have := R.flen; omega
        refine ⟨q1, q2, _, _, rfl, rfl, by rw [upd_ne q12]; exact upd_same, upd_same, ?_, fun q3 hq3 => ?_⟩
        · refine szl ?_
          rw [List.length_map, List.length_cons] at hcl
          show _ + 1 ≤ 1000
          omega
        have s4 := (Same.new (o := .lst (cutV ((("top" : Str) :: fs).map V.str) (some (-4)) none)) hq1).trans ((Same.new (o := .lst [V.str ("top" : Str)]) hq2).trans (Same.new (o := .lst (cutV ((("top" : Str) :: fs).map V.str) (some (-4)) none ++ [V.str ("top" : Str)])) hq3))
        have R4 := R3.step pa fa na (SB.of s4) (hs3.same s4) (Nat.le_refl i)
        have q3a : q3 ≠ a := (((hs3.upd hq1).upd hq2).ne hq3).symm
        refine .inl ⟨a, q3, _, _, rfl, R4.st, by omega, q3a, SqL.of upd_same, by simp, ?_, fun v2 H5 hv2 hs5 sb5 _ => ?_⟩
        · rw [List.length_append]
          rw [List.length_map, List.length_cons] at hcl
          show _ + 1 ≤ 1000000
          omega
        obtain ⟨fo, hfo, rfl⟩ : ∃ fo : Str, (fo = ("top" : Str) ∨ fo ∈ fs) ∧ v2 = .str fo := by
          rcases List.mem_append.mp hv2 with h | h
          · obtain ⟨fo, h1, rfl⟩ := List.mem_map.mp (mem_cutV h)
            exact ⟨fo, List.mem_cons.mp h1, rfl⟩
          · exact ⟨_, .inl rfl, List.mem_singleton.mp h⟩
        have R5 := R4.step pa fa na sb5 hs5 (Nat.le_refl i)
        refine ⟨_, _, rfl, _, rfl, _, rfl, nl, _, rfl, .inl (SqL.of R5.hn), rfl, flat_strs _, _, rfl, ?_⟩
        have hin : (if true = true then !inV (.str z) ((("top" : Str) :: rs.map (·.nm)).map V.str) else inV (.str z) ((("top" : Str) :: rs.map (·.nm)).map V.str)) = !decide (z ∈ (("top" : Str) :: rs.map (·.nm))) := by
          rw [if_pos rfl, inV_strs]
        refine ite2 (fun hc => ?_) (fun _ => ?_)
        · have hc' : (if true = true then !inV (.str z) ((("top" : Str) :: rs.map (·.nm)).map V.str) else inV (.str z) ((("top" : Str) :: rs.map (·.nm)).map V.str)) = true := hc
          rw [hin] at hc'
          have hz' : z ∉ (("top" : Str) :: rs.map (·.nm)) := by simpa using hc'
          have l41 : ((("top" : Str) :: rs.map (·.nm)).map V.str).length ≤ 1000 := by rw [List.length_map, List.length_cons, List.length_map]; omega
          refine ⟨_, rfl, .inl ⟨rfl, _, SqL.of R5.hn⟩, _, rfl, nl, _, _, rfl, rfl, R5.hn, small1000 l41, ?_⟩
          have n1 : ∀ {b : Addr}, b ≠ nl → (upd H5 nl (.lst ((("top" : Str) :: rs.map (·.nm)).map V.str ++ [V.str z]))) b = H5 b := fun h => upd_ne h
          have st6 : Stm (upd H5 nl (.lst ((("top" : Str) :: rs.map (·.nm)).map V.str ++ [V.str z]))) a (n + 13 * (i : Int) + 9 + 1 + 1) := by
            obtain ⟨x, y, u, e, r⟩ := R5.st
            exact ⟨x, y, u, by rw [n1 na.symm]; exact e, r⟩
          have sb6 : SB a H (upd H5 nl (.lst ((("top" : Str) :: rs.map (·.nm)).map V.str ++ [V.str z]))) := fun b o hb e => by
            rw [n1 (fun q => by rw [q] at e; have := sp _ _ e; rw [upd_same] at this; have h2 := (Same.new (o := .lst []) hp).trans (Same.new (o := .lst [V.str ("top" : Str)]) hfl); have h3 := h2.free hnl; rw [h3] at e; cases e)]
            exact R5.sb b o hb e
          refine ⟨_, rfl, .inl ⟨rfl, _, SqL.of (by rw [n1 hpn]; exact R5.hp)⟩, _, rfl, _, rfl, _, rfl, _, rfl, _, rfl, .inl ⟨a, pl, _, _, rfl, st6, by omega, hpa, sb6.seqL hpa hps, by simpa using p1, by simp; omega, fun v3 H7 hv3 hs7 sb7 _ => ?_⟩⟩
          obtain ⟨pr, hpr, rfl⟩ := List.mem_map.mp hv3
          refine ⟨(by show 4 ≤ sizeLine; decide), fun t ht => ?_⟩
          have hp7 : H7 p = some (.lst (as.map V.ref)) := sb7 _ _ pa (by rw [n1 hpn]; exact R5.hp)
          have hf7 : H7 fl = some (.lst ((("top" : Str) :: fs).map V.str)) := sb7 _ _ fa (by rw [n1 hfn]; exact R5.hf)
          have hn7 : H7 nl = some (.lst ((("top" : Str) :: rs.map (·.nm)).map V.str ++ [V.str z])) := sb7 _ _ na upd_same
          have tp : p ≠ t := ne_of_none hp7 ht
          have tf : fl ≠ t := ne_of_none hf7 ht
          have tn : nl ≠ t := ne_of_none hn7 ht
          have ta : a ≠ t := hs7.ne ht
          have rows7 : RowsAt H7 as rs := ⟨R5.rows.len, fun j b r hb hr => sb7 _ _ (fun q => by
            obtain ⟨x, y, u, e, _⟩ := R5.st
            have e2 := R5.rows.at_ j b r hb hr
            rw [q, e] at e2; cases e2) (by rw [n1 (fun q => by have e2 := R5.rows.at_ j b r hb hr; rw [q, R5.hn] at e2; cases e2)]; exact R5.rows.at_ j b r hb hr)⟩
          have al : (as.map V.ref).length ≤ 1000 := by rw [List.length_map, R5.rows.len]; omega
          refine ⟨p, _, _, rfl, rfl, by rw [upd_ne tp]; exact hp7, small1000 al, ?_⟩
          have g : ∀ {b : Addr}, b ≠ p → b ≠ t → (upd (upd H7 t (.tup [V.str z, V.str fo, V.str ki, prV pr])) p (.lst (as.map V.ref ++ [V.ref t]))) b = H7 b := fun h1 h2 => by rw [upd_ne h1, upd_ne h2]
          have fits : Fits rs ⟨z, fo, ki, pr⟩ := ⟨hz.shape, fun q => hz' (List.mem_cons.mpr (.inl q)), fun q => hz' (List.mem_cons.mpr (.inr q)), hfo.imp id (fun h => mem_folders (R5.fsub _ h)), hkok ki hki, hpok pr hpr⟩
          have valS := R5.val.snoc fits
          have rowsT : ∀ {b : Addr} {xs : List V}, H7 b = some (.tup xs) → (upd (upd H7 t (.tup [V.str z, V.str fo, V.str ki, prV pr])) p (.lst (as.map V.ref ++ [V.ref t]))) b = some (.tup xs) := fun {b xs} h => by
            rw [g (fun y => by rw [y, hp7] at h; cases h) (ne_of_none h ht)]; exact h
          have rows8 : RowsAt (upd (upd H7 t (.tup [V.str z, V.str fo, V.str ki, prV pr])) p (.lst (as.map V.ref ++ [V.ref t]))) (as ++ [t]) (rs ++ [⟨z, fo, ki, pr⟩]) := RowsAt.snoc ⟨rows7.len, fun j b r hb hr => rowsT (rows7.at_ j b r hb hr)⟩ (Eq.trans (upd_ne tp.symm) upd_same)
          have ep8 : (upd (upd H7 t (.tup [V.str z, V.str fo, V.str ki, prV pr])) p (.lst (as.map V.ref ++ [V.ref t]))) p = some (.lst ((as ++ [t]).map V.ref)) := by rw [upd_same, List.map_append]; rfl
          have ef8 := Eq.trans (g hpf.symm tf) hf7
          have en8 := Eq.trans (g hpn.symm tn) hn7
          have ea8 : ∀ {b : Addr} {o : HO}, b ≠ a → H b = some o → (upd (upd H7 t (.tup [V.str z, V.str fo, V.str ki, prV pr])) p (.lst (as.map V.ref ++ [V.ref t]))) b = some o := fun {b o} hb eb => by
            have e0 := sb7 b o hb (sb6 b o hb eb)
            rw [g (fun x => by rw [x, hp] at eb; cases eb) (ne_of_none e0 ht)]
            exact e0
          have st8 := hs7
          have es8 : (upd (upd H7 t (.tup [V.str z, V.str fo, V.str ki, prV pr])) p (.lst (as.map V.ref ++ [V.ref t]))) a = H7 a := g pa.symm ta
          generalize upd (upd H7 t (.tup [V.str z, V.str fo, V.str ki, prV pr])) p (.lst (as.map V.ref ++ [V.ref t])) = H8 at rows8 ep8 ef8 en8 ea8 es8
          have nfl : ∀ {b : Addr} {o : HO}, H b = some o → b ≠ fl := fun {b o} eb x => by rw [x, (Same.new (o := .lst []) hp).free hfl] at eb; cases eb
          have fin : ∀ (fs' : List Str) (H9 : Hp), (∀ y ∈ fs', y ∈ folderNames (rs ++ [⟨z, fo, ki, pr⟩])) → fs'.length ≤ i + 1 → (∀ b o, b ≠ fl → H8 b = some o → H9 b = some o) → H9 fl = some (.lst ((("top" : Str) :: fs').map V.str)) →
              RowsJ a p fl nl H H9 ks ps (n + 13 * ((i + 1 : Nat) : Int)) (i + 1) (as ++ [t]) (rs ++ [⟨z, fo, ki, pr⟩]) fs' := by
            intro fs' H9 hsub hlen hk hf9
            refine ⟨hk _ _ hpf ep8, hf9, hsub, hlen, ?_, ⟨rows8.len, fun j b r hb hr => hk _ _ (fun x => by have := rows8.at_ j b r hb hr; rw [x, ef8] at this; cases this) (rows8.at_ j b r hb hr)⟩, valS, by simp; omega, fun r hr => ?_, fun b o hb eb => hk _ _ (nfl eb) (ea8 hb eb), ?_⟩
            · rw [hk _ _ hfn.symm en8]; simp
            · rcases List.mem_append.mp hr with h | h
              · exact R5.mem r h
              · rw [List.mem_singleton.mp h]; exact ⟨hki, hpr, hz⟩
            · obtain ⟨x1, y1, u1, e1, r1⟩ := st8
              exact ⟨x1, y1, u1, hk _ _ fa.symm (es8.trans e1), r1.1, r1.2.1, r1.2.2.1, r1.2.2.2.1, by have := r1.2.2.2.2; push_cast; omega⟩
          have sub0 : ∀ y ∈ fs, y ∈ folderNames (rs ++ [⟨z, fo, ki, pr⟩]) := fun y hy => by
            rw [folders_snoc]
            exact List.mem_append_left _ (R5.fsub y hy)
          have flen5 := R5.flen
          refine ⟨_, rfl, rfl, _, rfl, ?_⟩
          refine ite2 (fun hk => ?_) (fun hk => ?_)
          · have hk' : ki = ("folder" : Str) := V.str.inj (of_decide_eq_true hk)
            refine ⟨_, rfl, _, rfl, p, z, _, rfl, ⟨_, ep8, rows8⟩, valS, by rw [List.length_append]; show _ + 1 ≤ 100; omega, .inr (List.mem_map.mpr ⟨⟨z, fo, ki, pr⟩, List.mem_append_right _ (List.mem_singleton.mpr rfl), rfl⟩), fun Dw H9 hDw s9 e9 => ?_⟩
            refine ⟨Dw, _, rfl, .inl (SqL.of e9), _, _, rfl, rfl, _, rfl, ?_⟩
            have ef9 := s9 _ _ ef8
            refine ite2 (fun _ => ?_) (fun _ => ?_)
            · refine ⟨_, rfl, .inl ⟨rfl, _, SqL.of ef9⟩, _, rfl, fl, _, _, rfl, rfl, ef9, small1000 (by rw [List.length_map, List.length_cons]; omega), ?_⟩
              refine ⟨_, _, fs ++ [z], _, _, _, _, rfl, fin (fs ++ [z]) _ (fun y hy => ?_) (by rw [List.length_append]; show _ + 1 ≤ _; omega) (fun b o nb e => by rw [upd_ne nb]; exact s9 _ _ e) ?_⟩
              · rcases List.mem_append.mp hy with hy | hy
                · exact sub0 y hy
                · rw [folders_snoc, List.mem_singleton.mp hy]
                  exact List.mem_append_right _ (by rw [if_pos hk']; exact List.mem_singleton.mpr rfl)
              · rw [upd_same]; simp
            · exact ⟨_, _, fs, _, _, _, _, rfl, fin fs H9 sub0 (by omega) (fun b o _ e => s9 _ _ e) ef9⟩
          · exact ⟨_, _, fs, _, _, _, _, rfl, fin fs H8 sub0 (by omega) (fun b o _ e => e) ef8⟩
        · exact ⟨as, rs, fs, _, _, _, _, rfl, R5.step pa fa na (SB.refl _ _) (R5.st.mono (by push_cast; omega)) (Nat.le_succ i)⟩
    · rintro σ H1 ⟨as, rs, fs, vk, vn, vki, vf, rfl, R⟩
      have e : ((many.toNat : Nat) : Int) = many := by omega
      exact ⟨_, rfl, hq p as rs H1 hp pa R.hp R.rows R.val (by have := R.len; omega) R.mem R.sb (by have := R.st; rw [e] at this; exact this)⟩
end
end Ts

set_option maxRecDepth 100000
set_option maxHeartbeats 8000000
namespace Ts
open PySem L2
open LamX (ExtN Tabs TabB)
/-! ### what the law asks of ways -/
def intB : V → Bool
  | .int _ => true
  | _ => false
theorem wayR_nd : ∀ (l : List Row), (l.map (·.nm)).Nodup → ∀ z, (wayR l z).Nodup ∧ ∀ y ∈ wayR l z, y ∈ l.map (·.nm) := by
  intro l
  induction l with
  | nil => exact fun _ z => ⟨List.nodup_nil, fun y hy => by cases hy⟩
  | cons r l ih =>
    intro nd z
    rw [List.map_cons, List.nodup_cons] at nd
    unfold wayR
    split
    · rename_i e
      obtain ⟨h1, h2⟩ := ih nd.2 r.fo
      refine ⟨?_, fun y hy => ?_⟩
      · refine List.nodup_append.mpr ⟨h1, by simp, fun a ha b hb q => ?_⟩
        rw [List.mem_singleton] at hb
        subst q
        have := h2 a ha
        rw [hb, ← e] at this
        exact nd.1 this
      · rcases List.mem_append.mp hy with hy | hy
        · exact List.mem_cons_of_mem _ (h2 y hy)
        · rw [List.mem_singleton.mp hy, ← e]; exact List.mem_cons_self ..
    · obtain ⟨h1, h2⟩ := ih nd.2 z
      exact ⟨h1, fun y hy => List.mem_cons_of_mem _ (h2 y hy)⟩
theorem wayOf_nd {rs : List Row} (hv : Valid rs) (z : Str) : (wayOf rs z).Nodup ∧ ∀ y ∈ wayOf rs z, y ∈ names rs := by
  obtain ⟨h1, h2⟩ := wayR_nd rs.reverse (by rw [List.map_reverse]; exact (List.reverse_perm _).nodup_iff.mpr hv.nodup) z
  exact ⟨h1, fun y hy => by have := h2 y hy; rw [List.map_reverse, List.mem_reverse] at this; exact this⟩
def lawSteps (rs : List Row) (x y : Str) : List Str := (wayOf rs x ++ wayOf rs y).filter fun z => !decide (decide (z ∈ wayOf rs x) = decide (z ∈ wayOf rs y))
theorem cnt_one {l : List Str} (h : l.Nodup) (z : Str) : l.count z = if z ∈ l then 1 else 0 := by
  rw [List.Nodup.count h]
theorem mem_lawSteps {rs : List Row} (hv : Valid rs) (x y z : Str) : z ∈ lawSteps rs x y ↔ z ∈ stepsL rs x y := by
  unfold lawSteps stepsL
  rw [List.mem_filter, List.mem_filter, List.mem_append, List.count_append, cnt_one (wayOf_nd hv x).1, cnt_one (wayOf_nd hv y).1]
  have hx := (wayOf_nd hv x).2 z
  have hy := (wayOf_nd hv y).2 z
  by_cases a : z ∈ wayOf rs x <;> by_cases b : z ∈ wayOf rs y <;> simp [a, b] <;> first | exact hx a | exact hy b
def spLWith : Sp := fun vs H Q _ => ∃ (wd : Addr) (z : Str) (b : Bool) (es : Wsh), vs = [.ref wd, .str z, .bl b] ∧ H wd = some (.dK (kvE es)) ∧ es.length ≤ 150 ∧ ∀ D H', H D = none → Same H H' → H' D = some (.dK (kvE (putE es z b))) → Q (.ref D) H'
def spLPins : Sp := fun vs H Q _ => ∃ (wd : Addr) (d : Option Bool) (es : Wsh), vs = [.ref wd, dfV d] ∧ H wd = some (.dK (kvE es)) ∧ es.length ≤ 150 ∧ ∀ D H', H D = none → Same H H' → H' D = some (.dK (kvE (topE d es))) → Q (.ref D) H'
def spLSteps : Sp := fun vs H Q _ => ∃ (p : Addr) (x y : Str) (rs : List Row), vs = [.ref p, .str x, .str y] ∧ RowsL H p rs ∧ Valid rs ∧ rs.length ≤ 100 ∧ x ∈ plc rs ∧ y ∈ plc rs ∧ ∀ D H', H D = none → Same H H' → H' D = some (.lst ((lawSteps rs x y).map V.str)) → Q (.ref D) H'
def spLInt : Sp := fun vs H Q _ => ∃ x, vs = [x] ∧ CellV H x ∧ Q (.bl (intB x)) H
def spLTriple : Sp := fun vs H Q _ => ∃ (ed : Addr) (y : V) (cs : List V) (es : Wsh), vs = [y, .ref ed] ∧ H ed = some (.dK (kvE es)) ∧ ThAt H y cs ∧ ∀ H', Same H H' → Q (.bl (wayB es cs)) H'
section
variable {P : Program} {w : World} {K : PySem.W.Frag} {mg : Str → Option Value} {base : Heap} {C CB : Addr}
abbrev pLw : List Str := ["_law_things", "_law_key", "_law_value"]
abbrev nLw : List Str := ["_law_things", "_law_key", "_law_value", "_law_found"]
theorem sc_Lwith : FnScope nLw pLw (defScope s_L_with) := ⟨rfl, rfl, rfl, by decide +kernel, rfl, by decide +kernel, by decide +kernel⟩
theorem ok_Lwith (D : DefAt K mg "_law_with" s_L_with pLw) (B : TxB mg) : FnOk P w K mg base CX0 2 D.f D.fd pLw spLWith := by
  refine D.F.ok sc_Lwith (fun vs H Q E h => ?_) (fun cdv A outer s H vs Q E hr h => ?_)
  · obtain ⟨wd, z, b, es, rfl, _⟩ := h
    rfl
  · obtain ⟨wd, z, b, es, rfl, hd, hl, hq⟩ := h
    have hu := hu_of hr
    refine ⟨_, pss_cons (ps_set (i := 3) sc_Lwith.nd rfl (.inl rfl) (pe_callTy (T := "dict") call_dictD (by rfl) B.dict (by decide +kernel) (pa_cons (pv 0) pa_nil)))
      (pss_cons (ps_dput hu (pv 3) (pv 1) (pv 2) rfl) (pss_one (ps_ret (pv 3)))), ?_⟩
    refine ⟨_, rfl, wd, _, rfl, .inl hd, fun D hD => ?_⟩
    refine ⟨_, rfl, _, rfl, _, rfl, D, _, rfl, DPut.k (k := Sum.inr z) upd_same (by rw [kvE_len]; exact small1000 (by omega)), ?_⟩
    refine ⟨_, rfl, hq D _ hD (fun y o ey => ?_) ?_⟩
    · rw [upd_ne (ne_of_none ey hD), upd_ne (ne_of_none ey hD)]; exact ey
    · rw [upd_same, kvE_put]
abbrev pLp : List Str := ["_law_wish_here", "_law_default_here"]
theorem sc_Lpins : FnScope pLp pLp (defScope s_L_pins) := ⟨rfl, rfl, rfl, by decide +kernel, rfl, by decide +kernel, by decide +kernel⟩
theorem ok_Lpins (D : DefAt K mg "_law_pins" s_L_pins pLp) (B : TxB mg) (Dw : DefAt K mg "_law_with" s_L_with pLw) (Gw : FnOk P w K mg base CX0 2 Dw.f Dw.fd pLw spLWith) : FnOk P w K mg base CX0 3 D.f D.fd pLp spLPins := by
  refine D.F.ok sc_Lpins (fun vs H Q E h => ?_) (fun cdv A outer s H vs Q E hr h => ?_)
  · obtain ⟨wd, d, es, rfl, _⟩ := h
    rfl
  · obtain ⟨wd, d, es, rfl, hd, hl, hq⟩ := h
    refine ⟨_, pss_one (ps_ret (pe_ifExp (pt_cmpR op_isN (pv 1) pe_non (nomark _)) (pe_callTy (T := "dict") call_dictD (by rfl) B.dict (by decide +kernel) (pa_cons (pv 0) pa_nil)) (pe_call Gw hr rfl Dw.g Dw.F.kp Dw.b .nil pass0 (pa_cons (pv 0) (pa_cons pe_str (pa_cons (pv 1) pa_nil)))))), ?_⟩
    cases d with
    | none =>
      refine ⟨_, rfl, rfl, _, rfl, iteT' (by rfl) ?_⟩
      exact ⟨_, rfl, wd, _, rfl, .inl hd, fun D hD => hq D _ hD (Same.new hD) upd_same⟩
    | some b =>
      refine ⟨_, rfl, rfl, _, rfl, iteF' (by rfl) ?_⟩
      exact ⟨_, rfl, _, rfl, wd, ("top" : Str), b, es, rfl, hd, hl, fun D H' hD s e => hq D H' hD s e⟩
abbrev pLs : List Str := ["_law_rows_here", "_law_one", "_law_other"]
abbrev nLs : List Str := ["_law_rows_here", "_law_one", "_law_other", "_law_mine", "_law_theirs", "_law_name_here"]
theorem sc_Lsteps : FnScope nLs pLs (defScope s_L_way_steps) := ⟨rfl, rfl, rfl, by decide +kernel, rfl, by decide +kernel, by decide +kernel⟩
theorem filt_moreS {l : List Str} {p : Str → Bool} {i : Nat} {y : Str} (h : l[i]? = some y) : (l.take (i + 1)).filter p = (l.take i).filter p ++ if p y = true then [y] else [] := by
  rw [take_more h, List.filter_append]
  by_cases q : p y = true
  · rw [if_pos q]; simp [q]
  · rw [if_neg q]; simp [q]
theorem ok_Lsteps (D : DefAt K mg "_law_way_steps" s_L_way_steps pLs) (Dw : DefAt K mg "_law_way" s_L_way ["_law_rows_here", "_law_box"]) (Gw : FnOk P w K mg base CX0 2 Dw.f Dw.fd ["_law_rows_here", "_law_box"] spWay) : FnOk P w K mg base CX0 3 D.f D.fd pLs spLSteps := by
  refine D.F.ok sc_Lsteps (fun vs H Q E h => ?_) (fun cdv A outer s H vs Q E hr h => ?_)
  · obtain ⟨p, x, y, rs, rfl, _⟩ := h
    rfl
  · obtain ⟨p, x, y, rs, rfl, hL, hv, hl, hx, hy, hq⟩ := h
    refine ⟨_, pss_cons (ps_asg (pe_tup (pa_cons (pe_call Gw hr rfl Dw.g Dw.F.kp Dw.b .nil pass0 (pa_cons (pv 0) (pa_cons (pv 1) pa_nil))) (pa_cons (pe_call Gw hr rfl Dw.g Dw.F.kp Dw.b .nil pass0 (pa_cons (pv 0) (pa_cons (pv 2) pa_nil))) pa_nil))) (pg_tup rfl (pgs_cons (pg_name (i := 3) sc_Lsteps.nd rfl (.inr rfl)) (pgs_cons (pg_name (i := 4) sc_Lsteps.nd rfl (.inr rfl)) pgs_nil))))
      (pss_one (ps_ret (pe_lc (own := [("_law_name_here", 5)]) (g := gName 5) (tt := tTest (tOp rNe (tOp (rIn K false) (tVar 5) (tVar 3)) (tOp (rIn K false) (tVar 5) (tVar 4)))) (te := tVar 5) rfl sc_Lsteps.nd (pi_list (pe_op op_cat (pv 3) (pv 4))) (blkOk_by (N := nLs) (sc := defScope s_L_way_steps) (by decide +kernel))
        (fun _ _ _ _ _ => pg_name (i := 5) sc_Lsteps.nd rfl (Or.inl rfl)) (fun _ _ _ _ _ => by exact pts_one (pt_cmpR op_ne (pe_cmpR op_in_seq (pv 5) (pv 3) (by rfl)) (pe_cmpR op_in_seq (pv 5) (pv 4) (by rfl)) (nomark _))) (fun _ _ _ _ _ => pv 5)))), ?_⟩
    have lx := way_len (rs := rs) (z := x)
    have ly := way_len (rs := rs) (z := y)
    refine ⟨_, rfl, _, rfl, p, x, rs, rfl, hL, hv, hl, mem_plc.mp hx, fun D1 H1 hD1 s1 e1 => ?_⟩
    refine ⟨_, rfl, _, rfl, p, y, rs, rfl, hL.same s1, hv, hl, mem_plc.mp hy, fun D2 H2' hD2 s2' e2' => ?_⟩
    refine ⟨(by show 2 ≤ sizeLine; decide), fun tq htq => ?_⟩
    refine ⟨tq, _, rfl, sqT upd_same, rfl, _, _, rfl, _, _, rfl, rfl, ?_⟩
    have s2 : Same H1 (upd H2' tq (.tup [.ref D1, .ref D2])) := s2'.trans (Same.new htq)
    have e2 : (upd H2' tq (.tup [.ref D1, .ref D2])) D2 = some (.lst ((wayOf rs y).map V.str)) := (Same.new htq) _ _ e2'
    generalize upd H2' tq (.tup [.ref D1, .ref D2]) = H2 at s2 e2
    have e1' := s2 _ _ e1
    refine ⟨_, rfl, _, rfl, D1, D2, _, _, rfl, rfl, e1', e2, (by rw [List.length_map, List.length_map]; exact szl (by omega)), fun c hc => ?_⟩
    have s3 : Same H2 (upd H2 c (.lst ((wayOf rs x).map V.str ++ (wayOf rs y).map V.str))) := Same.new hc
    have e3 : (upd H2 c (.lst ((wayOf rs x).map V.str ++ (wayOf rs y).map V.str))) c = some (.lst ((wayOf rs x ++ wayOf rs y).map V.str)) := by rw [upd_same, List.map_append]
    generalize upd H2 c (.lst ((wayOf rs x).map V.str ++ (wayOf rs y).map V.str)) = H3 at s3 e3
    have S3 := s1.trans (s2.trans s3)
    have f1 := s3 _ _ e1'
    have f2 := s3 _ _ e2
    clear s1 s2 s3 e1 e1' e2 hD1 hD2 hc s2' e2' htq
    refine ⟨c, rfl, ⟨_, SqL.of e3⟩, fun D hD => ?_⟩
    refine lc_list (K := K) (a := c) (xs := (wayOf rs x ++ wayOf rs y).map V.str) (fun i H' => Same H3 H' ∧ H' D = some (.lst ((((wayOf rs x ++ wayOf rs y).take i).filter fun z => !decide (decide (z ∈ wayOf rs x) = decide (z ∈ wayOf rs y))).map V.str))) ⟨Same.new hD, upd_same⟩ (fun i H' _ m => m.1.seq (SqL.of e3)) ?_ ?_
    · rintro i v H4 hi ⟨s4, e4⟩
      rw [List.getElem?_map] at hi
      obtain ⟨z, hz, rfl⟩ := Option.map_eq_some_iff.mp hi
      refine ⟨rfl, _, rfl, _, rfl, D1, _, rfl, .inl (SqL.of (s4 _ _ f1)), rfl, flat_strs _, _, rfl, _, rfl, D2, _, rfl, .inl (SqL.of (s4 _ _ f2)), rfl, flat_strs _, rfl, _, rfl, ?_⟩
      have lt : (((wayOf rs x ++ wayOf rs y).take i).filter fun z => !decide (decide (z ∈ wayOf rs x) = decide (z ∈ wayOf rs y))).length ≤ 200 := by
        refine Nat.le_trans (List.length_filter_le _ _) ?_
        rw [List.length_take, List.length_append]
        omega
      have eb : (!decide (V.bl (inV (.str z) ((wayOf rs x).map V.str)) = V.bl (inV (.str z) ((wayOf rs y).map V.str)))) = !decide (decide (z ∈ wayOf rs x) = decide (z ∈ wayOf rs y)) := by
        rw [inV_strs, inV_strs]
        by_cases q1 : z ∈ wayOf rs x <;> by_cases q2 : z ∈ wayOf rs y <;> simp [q1, q2]
      rw [filt_moreS hz]
      refine ite2 (fun hb => ?_) (fun hb => ?_)
      · replace hb := eb.symm.trans hb
        refine ⟨_, rfl, _, e4, small1000 (by rw [List.length_map]; omega), fun b o eb2 => ?_, ?_⟩
        · rw [upd_ne (ne_of_none eb2 hD)]; exact s4 _ _ eb2
        · rw [upd_same, if_pos hb, List.map_append]; rfl
      · have hb2 : ¬(!decide (decide (z ∈ wayOf rs x) = decide (z ∈ wayOf rs y))) = true := fun q => hb (eb.trans q)
        refine ⟨s4, ?_⟩
        rw [if_neg hb2, List.append_nil]
        exact e4
    rintro H4 ⟨s4, e4⟩
    rw [List.length_map, List.take_length] at e4
    exact hq D H4 (S3.free hD) (S3.trans s4) e4
theorem sc_Lint : FnScope ["_law_thing"] ["_law_thing"] (defScope s_L_is_integer) := ⟨rfl, rfl, rfl, by decide +kernel, rfl, by decide +kernel, by decide +kernel⟩
theorem ok_Lint (D : DefAt K mg "_law_is_integer" s_L_is_integer ["_law_thing"]) (B : TxB mg) : FnOk P w K mg base CX0 1 D.f D.fd ["_law_thing"] spLInt := by
  refine D.F.ok sc_Lint (fun vs H Q E h => ?_) (fun cdv A outer s H vs Q E hr h => ?_)
  · obtain ⟨x, rfl, _⟩ := h
    rfl
  · obtain ⟨x, rfl, hx, hq⟩ := h
    refine ⟨_, (pss_one (ps_ret (pe_and (pe_callB call_isi (by rfl) B.isinstance (by decide +kernel) (pa_cons (pv 0) (pa_cons (pe_bltn (by rfl) B.int (by decide +kernel) (v := .ty "int") rfl) pa_nil)))
        (pe_one (pe_not (pe_callB call_isi (by rfl) B.isinstance (by decide +kernel) (pa_cons (pv 0) (pa_cons (pe_bltn (by rfl) B.bool (by decide +kernel) (v := .ty "bool") rfl) pa_nil)))))))), ?_⟩
    obtain ⟨ty, hty, _, k2, k3⟩ := hx.ty (K := K)
    refine ⟨_, rfl, _, _, _, _, isI x, rfl, .ty "int", hty, k2, _, rfl, ?_⟩
    rcases hx with ⟨z, rfl, lz⟩ | rfl | ⟨i, rfl⟩ | ⟨b, rfl⟩ | ⟨a, xs, rfl, _⟩ | ⟨a, xs, rfl, _⟩ | ⟨a, xs, rfl, _⟩
    · exact iteF hq
    · exact iteF hq
    · exact iteT ⟨_, rfl, _, _, _, _, false, rfl, .ty "bool", hty, k3, _, rfl, hq⟩
    · exact iteT ⟨_, rfl, _, _, _, _, true, rfl, .ty "bool", hty, k3, _, rfl, hq⟩
    · exact iteF hq
    · exact iteF hq
    · exact iteF hq
end
end Ts

set_option maxRecDepth 100000
set_option maxHeartbeats 4000000
namespace Ts
open PySem L2
/-! ### the ways as they are found, box by box -/
def stepP (rs : List Row) : Prop := ∀ r ∈ rs, 0 ≤ stepR rs r
theorem step_nn {rs : List Row} (hv : Valid rs) {r : Row} (hr : r ∈ rs) : 0 ≤ stepR rs r := by
  have hp := hv.prI hr
  have e := endless_pos hv
  unfold stepR
  unfold Ts.prI at hp
  cases c : r.pr with
  | none => show 0 ≤ endlessI rs; omega
  | some p => rw [c] at hp; exact hp
/-- what lies beneath a place has brought -/
def wS (rs : List Row) (es : Wsh) : List Row → Str → Int
  | [] => fun _ => 0
  | r :: l => fun z => if z = r.fo then wS rs es l z + (wS rs es l r.nm + sumW (meetP rs es (waysS rs es l).2 r.nm).1) else wS rs es l z
def aW (rs : List Row) (es : Wsh) (suf : List Row) (z : Str) (b : Bool) : Int := sumP ((waysS rs es suf).2 z b)
/-- all parts that wait are right -/
structure WtOk (rs : List Row) (es : Wsh) (pre suf : List Row) : Prop where
  part : ∀ y ∈ plc pre, ∀ b, ∀ e ∈ (waysS rs es suf).2 y b, 1 ≤ e.1 ∧ endO es e.2 = some b ∧ ∀ z ∈ names pre, (z ∈ wayOf rs e.2 ↔ z ∈ wayOf rs y)
  way : ∀ e ∈ (waysS rs es suf).1, 1 ≤ e.1 ∧ endO es e.2.1 = some true ∧ endO es e.2.2 = some false ∧ ∀ z ∈ names pre, (z ∈ wayOf rs e.2.1 ↔ z ∈ wayOf rs e.2.2)
  sum : sumW (waysS rs es suf).1 = ((plc pre).map (wS rs es suf)).sum
  nn : ∀ y, 0 ≤ wS rs es suf y
theorem end_part {rs : List Row} {es : Wsh} {pre suf : List Row} (hv : Valid rs) (h : WtOk rs es pre suf) {y : Str} (hy : y ∈ plc pre) (b : Bool) : ∀ e ∈ endP rs es (waysS rs es suf).2 y b, 1 ≤ e.1 ∧ endO es e.2 = some b ∧ ∀ z ∈ names pre, (z ∈ wayOf rs e.2 ↔ z ∈ wayOf rs y) := by
  intro e he
  unfold endP at he
  by_cases q : endO es y = some b
  · rw [if_pos q] at he
    rw [List.mem_singleton.mp he]
    exact ⟨endless_pos hv, q, fun z _ => Iff.rfl⟩
  · rw [if_neg q] at he
    exact h.part y hy b e he
theorem meet_r {rs : List Row} {es : Wsh} {pre suf : List Row} (hv : Valid rs) (h : WtOk rs es pre suf) {y : Str} (hy : y ∈ plc pre) : PairR (endP rs es (waysS rs es suf).2 y true) (endP rs es (waysS rs es suf).2 y false) [] (meetP rs es (waysS rs es suf).2 y) :=
  pair_r _ _ _ _ (fun e he => (end_part hv h hy true e he).1) (fun e he => (end_part hv h hy false e he).1) (Nat.le_refl _)
theorem side_part {rs : List Row} {es : Wsh} {pre suf : List Row} (hv : Valid rs) (h : WtOk rs es pre suf) {y : Str} (hy : y ∈ plc pre) (b : Bool) : PosP (sideP (meetP rs es (waysS rs es suf).2 y) b) ∧ ∀ e ∈ sideP (meetP rs es (waysS rs es suf).2 y) b, endO es e.2 = some b ∧ ∀ z ∈ names pre, (z ∈ wayOf rs e.2 ↔ z ∈ wayOf rs y) := by
  have m := meet_r hv h hy
  cases b
  · refine ⟨m.pf, fun e he => ?_⟩
    obtain ⟨e', h1, h2⟩ := m.ef e he
    have := end_part hv h hy false e' h1
    rw [h2] at this
    exact this.2
  · refine ⟨m.po, fun e he => ?_⟩
    obtain ⟨e', h1, h2⟩ := m.eo e he
    have := end_part hv h hy true e' h1
    rw [h2] at this
    exact this.2
theorem names_snoc (pre : List Row) (r : Row) : names (pre ++ [r]) = names pre ++ [r.nm] := by unfold names; rw [List.map_append]; rfl
theorem wt_ok {rs : List Row} (hv : Valid rs) {es : Wsh} : ∀ (suf pre : List Row), rs = pre ++ suf → WtOk rs es pre suf
  | [], pre, _ => ⟨fun y _ b e he => (by cases he), fun e he => (by cases he), (by
      have : ∀ l : List Str, (l.map (wS rs es [])).sum = 0 := fun l => by
        induction l with
        | nil => rfl
        | cons a l ih => rw [List.map_cons, List.sum_cons, ih]; rfl
      rw [this]; rfl), fun _ => Int.le_refl _⟩
  | r :: suf, pre, e => by
    have ih := wt_ok hv (es := es) suf (pre ++ [r]) (by rw [List.append_assoc]; exact e)
    have hv' := hv
    rw [e] at hv'
    have hf := fits_at hv'
    have hp := valid_pre hv'
    have hrm : r ∈ rs := by rw [e]; simp
    have hy : r.nm ∈ plc (pre ++ [r]) := by rw [plc_snoc]; simp
    have m := meet_r hv ih hy
    have up : ∀ z ∈ names pre, (z ∈ wayOf rs r.nm ↔ z ∈ wayOf rs r.fo) := fun z hz => by
      rw [way_step hv hrm, List.mem_append, List.mem_singleton]
      exact ⟨fun h => h.elim id fun q => absurd (by rw [← q]; exact hz) hf.new, .inl⟩
    have sub : ∀ z ∈ names pre, z ∈ names (pre ++ [r]) := fun z hz => by rw [names_snoc]; exact List.mem_append_left _ hz
    have wnn : 0 ≤ sumW (meetP rs es (waysS rs es suf).2 r.nm).1 := sum_ge fun x hx => by
      rcases m.ew x hx with k | k
      · cases k
      · have := k.1; omega
    refine ⟨fun y hy2 b x hx => ?_, fun x hx => ?_, ?_, fun y => ?_⟩
    · have hy3 : y ∈ plc (pre ++ [r]) := by rw [plc_snoc]; exact List.mem_append_left _ hy2
      have hx : x ∈ (if y = r.fo then (waysS rs es suf).2 y b ++ letL (sideP (meetP rs es (waysS rs es suf).2 r.nm) b) (stepR rs r) else (waysS rs es suf).2 y b) := hx
      have old : ∀ x ∈ (waysS rs es suf).2 y b, 1 ≤ x.1 ∧ endO es x.2 = some b ∧ ∀ z ∈ names pre, (z ∈ wayOf rs x.2 ↔ z ∈ wayOf rs y) := fun x hx => by
        obtain ⟨h1, h2, h3⟩ := ih.part y hy3 b x hx
        exact ⟨h1, h2, fun z hz => h3 z (sub z hz)⟩
      by_cases q : y = r.fo
      · rw [if_pos q] at hx
        rcases List.mem_append.mp hx with hx | hx
        · exact old x hx
        · obtain ⟨s1, s2⟩ := side_part hv ih hy b
          obtain ⟨x', k1, k2⟩ := let_end x hx
          obtain ⟨k3, k4⟩ := s2 x' k1
          rw [k2] at k3 k4
          refine ⟨let_pos x hx, k3, fun z hz => ?_⟩
          rw [q, k4 z (sub z hz), up z hz]
      · rw [if_neg q] at hx
        exact old x hx
    · rcases List.mem_append.mp (show x ∈ (waysS rs es suf).1 ++ (meetP rs es (waysS rs es suf).2 r.nm).1 from hx) with hx | hx
      · obtain ⟨h1, h2, h3, h4⟩ := ih.way x hx
        exact ⟨h1, h2, h3, fun z hz => h4 z (sub z hz)⟩
      · rcases m.ew x hx with k | ⟨k1, ⟨e1, k2, k3⟩, ⟨e2, k4, k5⟩⟩
        · cases k
        · obtain ⟨_, a2, a3⟩ := end_part hv ih hy true e1 k2
          obtain ⟨_, b2, b3⟩ := end_part hv ih hy false e2 k4
          rw [k3] at a2 a3
          rw [k5] at b2 b3
          exact ⟨k1, a2, b2, fun z hz => (a3 z (sub z hz)).trans (b3 z (sub z hz)).symm⟩
    · show sumW ((waysS rs es suf).1 ++ (meetP rs es (waysS rs es suf).2 r.nm).1) = _
      rw [sumW_app, ih.sum, plc_snoc, List.map_append, List.sum_append]
      have e2 : (plc pre).map (wS rs es (r :: suf)) = (plc pre).map fun z => if z = r.fo then wS rs es suf z + (wS rs es suf r.nm + sumW (meetP rs es (waysS rs es suf).2 r.nm).1) else wS rs es suf z := rfl
      rw [e2, sum_one (plc_nodup hp) (fo_pre hf)]
      simp only [List.map_cons, List.map_nil, List.sum_cons, List.sum_nil]
      omega
    · show 0 ≤ (if y = r.fo then wS rs es suf y + (wS rs es suf r.nm + sumW (meetP rs es (waysS rs es suf).2 r.nm).1) else wS rs es suf y)
      have h1 := ih.nn y
      have h2 := ih.nn r.nm
      split <;> omega
end Ts

set_option maxRecDepth 100000
set_option maxHeartbeats 4000000
namespace Ts
open PySem L2
theorem sum_side {rs : List Row} {es : Wsh} {pre suf : List Row} (hv : Valid rs) (h : WtOk rs es pre suf) {y : Str} (hy : y ∈ plc pre) :
    sumP (sideP (meetP rs es (waysS rs es suf).2 y) true) = sumP (endP rs es (waysS rs es suf).2 y true) - sumW (meetP rs es (waysS rs es suf).2 y).1 ∧ sumP (sideP (meetP rs es (waysS rs es suf).2 y) false) = sumP (endP rs es (waysS rs es suf).2 y false) - sumW (meetP rs es (waysS rs es suf).2 y).1 ∧
    sumW (meetP rs es (waysS rs es suf).2 y).1 = min (sumP (endP rs es (waysS rs es suf).2 y true)) (sumP (endP rs es (waysS rs es suf).2 y false)) := by
  have m := meet_r hv h hy
  have h1 := m.so
  have h2 := m.sf
  have n1 := sumP_nn m.po
  have n2 := sumP_nn m.pf
  have z : sumW [] = 0 := rfl
  rw [z] at h1 h2
  have e1 : sideP (meetP rs es (waysS rs es suf).2 y) true = (meetP rs es (waysS rs es suf).2 y).2.1 := rfl
  have e2 : sideP (meetP rs es (waysS rs es suf).2 y) false = (meetP rs es (waysS rs es suf).2 y).2.2 := rfl
  rw [e1, e2]
  refine ⟨by omega, by omega, ?_⟩
  rcases m.one with k | k
  · rw [k] at h1
    have : sumP [] = 0 := rfl
    omega
  · rw [k] at h2
    have : sumP [] = 0 := rfl
    omega
/-- as far as the endless amount goes -/
def capE (rs : List Row) (x : Int) : Int := min x (endlessI rs)
theorem end_cap {rs : List Row} (hv : Valid rs) {es : Wsh} {pre suf : List Row} (h : WtOk rs es pre suf) {y : Str} (hy : y ∈ plc pre) (b : Bool) (W : Int) (hW : 0 ≤ W) :
    min (W + aW rs es suf y (!b) + pen rs es y b) (endlessI rs) = min (W + sumP (endP rs es (waysS rs es suf).2 y (!b))) (endlessI rs) := by
  have n1 : 0 ≤ aW rs es suf y (!b) := sumP_nn fun e he => (h.part y hy _ e he).1
  have ep := endless_pos hv
  unfold endP pen
  by_cases q : endO es y = some (!b)
  · rw [if_pos q, if_pos q]
    have : sumP [(endlessI rs, y)] = endlessI rs := by show endlessI rs + 0 = _; omega
    rw [this]; omega
  · rw [if_neg q, if_neg q]
    show min (W + sumP ((waysS rs es suf).2 y (!b)) + 0) _ = _
    rw [Int.add_zero]
theorem tab_ways {rs : List Row} (hv : Valid rs) {es : Wsh} : ∀ (suf pre : List Row), rs = pre ++ suf → ∀ z ∈ plc pre, ∀ b, min (tabT rs es suf z b) (endlessI rs) = min (wS rs es suf z + aW rs es suf z (!b) + pen rs es z b) (endlessI rs)
  | [], pre, _, z, _, b => by
    show min (pen rs es z b) _ = min (0 + 0 + pen rs es z b) _
    omega
  | r :: suf, pre, e, z, hz, b => by
    have e' : rs = (pre ++ [r]) ++ suf := by rw [List.append_assoc]; exact e
    have wt := wt_ok hv (es := es) suf (pre ++ [r]) e'
    have ih := tab_ways hv (es := es) suf (pre ++ [r]) e'
    have hv' := hv
    rw [e] at hv'
    have hf := fits_at hv'
    have hrm : r ∈ rs := by rw [e]; simp
    have hy : r.nm ∈ plc (pre ++ [r]) := by rw [plc_snoc]; simp
    have hz' : z ∈ plc (pre ++ [r]) := by rw [plc_snoc]; exact List.mem_append_left _ hz
    have tp := tab_pen hv es suf fun q hq => by rw [e]; simp [hq]
    have ep := endless_pos hv
    have st := step_nn hv hrm
    have n0 := wt.nn z
    have n1 := wt.nn r.nm
    have nz : 0 ≤ aW rs es suf z (!b) := sumP_nn fun x hx => (wt.part z hz' _ x hx).1
    have iz := ih z hz' b
    have ib := (ih r.nm hy b).trans (end_cap hv wt hy b _ n1)
    have inb := (ih r.nm hy (!b)).trans (end_cap hv wt hy (!b) _ n1)
    rw [Bool.not_not] at inb
    obtain ⟨s1, s2, s3⟩ := sum_side hv wt hy
    have po : 0 ≤ sumP (endP rs es (waysS rs es suf).2 r.nm true) := sumP_nn fun x hx => (end_part hv wt hy true x hx).1
    have pf : 0 ≤ sumP (endP rs es (waysS rs es suf).2 r.nm false) := sumP_nn fun x hx => (end_part hv wt hy false x hx).1
    have pn : 0 ≤ pen rs es z b := by unfold pen; split <;> omega
    show min (if z = r.fo then tabT rs es suf z b + min (tabT rs es suf r.nm b) (tabT rs es suf r.nm (!b) + stepR rs r) else tabT rs es suf z b) _ = min ((if z = r.fo then wS rs es suf z + (wS rs es suf r.nm + sumW (meetP rs es (waysS rs es suf).2 r.nm).1) else wS rs es suf z) + sumP (if z = r.fo then (waysS rs es suf).2 z (!b) ++ letL (sideP (meetP rs es (waysS rs es suf).2 r.nm) (!b)) (stepR rs r) else (waysS rs es suf).2 z (!b)) + pen rs es z b) _
    by_cases q : z = r.fo
    · rw [if_pos q, if_pos q, if_pos q, sumP_app, let_sum (side_part hv wt hy (!b)).1 st]
      have hh := tp z b
      have h1 := tp r.nm b
      have h2 := tp r.nm (!b)
      unfold aW at iz nz
      generalize tabT rs es suf z b = TZ at *
      generalize tabT rs es suf r.nm b = TB at *
      generalize tabT rs es suf r.nm (!b) = TN at *
      generalize wS rs es suf z = WZ at *
      generalize wS rs es suf r.nm = WR at *
      generalize sumP ((waysS rs es suf).2 z (!b)) = AZ at *
      generalize sumW (meetP rs es (waysS rs es suf).2 r.nm).1 = MM at *
      cases b
      · simp only [Bool.not_false, Bool.not_true] at *
        rw [s1]
        omega
      · simp only [Bool.not_false, Bool.not_true] at *
        rw [s2]
        omega
    · rw [if_neg q, if_neg q, if_neg q]
      exact iz
theorem ways_sum {rs : List Row} (hv : Valid rs) {es : Wsh} (ok : EndsOk rs es) (ho : OpenE rs es) : sumW (waysF rs es) = cheapI rs es := by
  have wt := wt_ok hv (es := es) rs [] rfl
  have hy : ("top" : Str) ∈ plc [] := mem_plc.mpr (.inl rfl)
  have ih := tab_ways hv (es := es) rs [] rfl "top" hy
  have n1 := wt.nn "top"
  have it := (ih true).trans (end_cap hv wt hy true _ n1)
  have jf := (ih false).trans (end_cap hv wt hy false _ n1)
  obtain ⟨_, _, s3⟩ := sum_side hv wt hy
  have hs := cheap_small hv ok ho
  unfold waysF
  rw [sumW_app, wt.sum, s3]
  have ep : ((plc []).map (wS rs es rs)).sum = wS rs es rs "top" := by show wS rs es rs "top" + 0 = _; omega
  rw [ep]
  unfold cheapI at hs ⊢
  unfold tabF at hs ⊢
  simp only [Bool.not_true, Bool.not_false] at it jf
  omega
end Ts

set_option maxRecDepth 100000
set_option maxHeartbeats 8000000
namespace Ts
open PySem L2
open LamX (ExtN Tabs TabB)
section
variable {P : Program} {w : World} {K : PySem.W.Frag} {mg : Str → Option Value} {base : Heap} {C CB : Addr}
abbrev pLtr : List Str := ["_law_thing", "_law_pins_here"]
abbrev nLtr : List Str := ["_law_thing", "_law_pins_here", "_law_amount", "_law_one", "_law_other"]
theorem sc_Ltri : FnScope nLtr pLtr (defScope s_L_is_triple) := ⟨rfl, rfl, rfl, by decide +kernel, rfl, by decide +kernel, by decide +kernel⟩
theorem intB_num {x : V} (h : intB x = false) : numB 1 x = false := by cases x <;> first | rfl | cases h
theorem ok_Ltri (D : DefAt K mg "_law_is_triple" s_L_is_triple pLtr) (B : TxB mg) (Di : DefAt K mg "_law_is_integer" s_L_is_integer ["_law_thing"]) (Gi : FnOk P w K mg base CX0 1 Di.f Di.fd ["_law_thing"] spLInt) : FnOk P w K mg base CX0 2 D.f D.fd pLtr spLTriple := by
  refine D.F.ok sc_Ltri (fun vs H Q E h => ?_) (fun cdv A outer s H vs Q E hr h => ?_)
  · obtain ⟨ed, y, cs, es, rfl, _⟩ := h
    rfl
  · obtain ⟨ed, y, cs, es, rfl, hd, hy, hq⟩ := h
    have hu := hu_of hr
    refine ⟨_, pss_cons (ps_if (PW.pt (pw_or (pt_not (pt_val (pe_callB call_isiT (by rfl) B.isinstance (by decide +kernel) (pa_cons (pv 0) (pa_cons (pe_tup (pa_cons (pe_bltn (by rfl) B.list (by decide +kernel) (v := .ty "list") rfl) (pa_cons (pe_bltn (by rfl) B.tuple (by decide +kernel) (v := .ty "tuple") rfl) pa_nil))) pa_nil)))))
        (pw_or1 (pt_cmpR op_ne (pe_callB call_len_seq (by rfl) B.len PySem.boot_len (pa_cons (pv 0) pa_nil)) pe_int (nomark _))))) (pss_one (ps_ret pe_bl)) pss_nil)
      (C8.pss_cut (ps_asg (pv 0) (pg_or (pg_tup rfl (pgs_cons (pg_name (i := 2) sc_Ltri.nd rfl (.inl rfl)) (pgs_cons (pg_name (i := 3) sc_Ltri.nd rfl (.inl rfl)) (pgs_cons (pg_name (i := 4) sc_Ltri.nd rfl (.inl rfl)) pgs_nil))))
          (pg_unl rfl (pgs_cons (pg_name (i := 2) sc_Ltri.nd rfl (.inl rfl)) (pgs_cons (pg_name (i := 3) sc_Ltri.nd rfl (.inl rfl)) (pgs_cons (pg_name (i := 4) sc_Ltri.nd rfl (.inl rfl)) pgs_nil))))))
      (pss_cons (ps_if (PW.pt (pw_or (pt_not (pt_val (pe_call Gi hr rfl Di.g Di.F.kp Di.b .nil pass0 (pa_cons (pv 2) pa_nil)))) (pw_or1 (pt_cmpR op_lt (pv 2) pe_int (nomark _))))) (pss_one (ps_ret pe_bl)) pss_nil)
      (pss_cons (ps_if (PW.pt (pw_or (pt_not (pt_val (pe_callB call_isi (by rfl) B.isinstance (by decide +kernel) (pa_cons (pv 3) (pa_cons (pe_bltn (by rfl) B.str (by decide +kernel) (v := .ty "str") rfl) pa_nil)))))
          (pw_or1 (pt_not (pt_val (pe_callB call_isi (by rfl) B.isinstance (by decide +kernel) (pa_cons (pv 4) (pa_cons (pe_bltn (by rfl) B.str (by decide +kernel) (v := .ty "str") rfl) pa_nil)))))))) (pss_one (ps_ret pe_bl)) pss_nil)
      (pss_one (ps_ret (pe_and (pe_cmp (pc_din hu (pv 3) (pv 1))) (pe_and (pe_cmp (pc_din hu (pv 4) (pv 1))) (pe_and (pe_dget hu (pv 1) (pv 3) (fun _ _ => rfl)) (pe_one (pe_not (pe_dget hu (pv 1) (pv 4) (fun _ _ => rfl)))))))))))), ?_⟩
    refine ⟨_, rfl, (by show 2 ≤ sizeLine; decide), fun tp htp => ?_⟩
    have s1 : Same H (upd H tp (.tup [.ty "list", .ty "tuple"])) := Same.new htp
    rcases hy with ⟨hn, rfl⟩ | ⟨a, rfl, ha, l10, hcell⟩
    · obtain ⟨ty0, ty, kk⟩ := (hn.ext (Same.x s1)).ty (K := K)
      exact ⟨_, tp, _, ty0, _, false, rfl, upd_same, .cons (.ty "list") (.cons (.ty "tuple") .nil), ty, kk, _, rfl, iteT (hq _ s1)⟩
    obtain ⟨t, ty, kk⟩ := (ha.same s1).ty (K := K)
    refine ⟨_, tp, _, t, _, true, rfl, upd_same, .cons (.ty "list") (.cons (.ty "tuple") .nil), ty, kk, _, rfl, iteF ?_⟩
    refine ⟨_, rfl, a, _, rfl, (ha.same s1).or, rfl, _, rfl, ?_⟩
    have e2 : (!decide (V.int (cs.length : Nat) = V.int 3)) = decide (cs.length ≠ 3) := by
      by_cases h : cs.length = 3
      · rw [h]; rfl
      · rw [decide_eq_true h, decide_eq_false (fun e => h (by have := V.int.inj e; omega))]; rfl
    rw [e2]
    by_cases h3 : cs.length = 3
    case neg =>
      rw [decide_eq_true h3]
      rw [way_len3 h3] at hq
      exact iteT (hq _ s1)
    rw [decide_eq_false (fun h => h h3)]
    refine iteF ?_
    obtain ⟨c1, c2, c3, rfl⟩ : ∃ c1 c2 c3, cs = [c1, c2, c3] := by
      match cs, h3 with
      | [c1, c2, c3], _ => exact ⟨_, _, _, rfl⟩
    have un : SqT K (upd H tp (.tup [.ty "list", .ty "tuple"])) a [c1, c2, c3] ∨ SqL K (upd H tp (.tup [.ty "list", .ty "tuple"])) a [c1, c2, c3] := (ha.same s1).or.symm
    refine ⟨fun σ' H' => σ' = [some (.ref a), some (.ref ed), some c1, some c2, some c3] ∧ H' = upd H tp (.tup [.ty "list", .ty "tuple"]), ?_, ?_⟩
    · refine ⟨_, rfl, ?_⟩
      rcases un with un | un
      · exact .inl ⟨a, _, rfl, un, rfl, _, _, rfl, _, _, rfl, _, _, rfl, rfl, rfl, rfl⟩
      · exact .inr ⟨a, _, rfl, un, rfl, _, _, rfl, _, _, rfl, _, _, rfl, rfl, rfl, rfl⟩
    rintro σ' H' ⟨rfl, rfl⟩
    have hx : ∀ c ∈ [c1, c2, c3], CellV (upd H tp (.tup [.ty "list", .ty "tuple"])) c := fun c hc => (hcell c hc).ext (Same.x s1)
    have hq1 : ∀ H', Same H H' → Q (.bl (numB 1 c1 && (isS c2 && (isS c3 && (endB es true c2 && endB es false c3))))) H' := hq
    have e1 := s1 _ _ hd
    generalize upd H tp (.tup [.ty "list", .ty "tuple"]) = H1 at s1 hx e1
    refine ⟨_, rfl, c1, rfl, hx c1 (by simp), _, rfl, ?_⟩
    cases b1 : intB c1 with
    | false =>
      rw [intB_num b1] at hq1
      exact iteT (hq1 _ s1)
    | true =>
    obtain ⟨n, rfl⟩ : ∃ n, c1 = .int n := by cases c1 <;> first | exact ⟨_, rfl⟩ | cases b1
    refine iteF ⟨_, rfl, _, _, rfl, rfl, _, rfl, ?_⟩
    by_cases n1 : n < 1
    · rw [decide_eq_true n1]
      rw [show numB 1 (.int n) = false from decide_eq_false (by omega)] at hq1
      exact iteT (hq1 _ s1)
    rw [decide_eq_false n1]
    rw [show numB 1 (.int n) = true from decide_eq_true (by omega)] at hq1
    refine iteF ?_
    obtain ⟨ty2, hty2, k2, _, _⟩ := (hx c2 (by simp)).ty (K := K)
    refine ⟨_, rfl, _, _, _, _, isS c2, rfl, .ty "str", hty2, k2, _, rfl, ?_⟩
    have hq3 : ∀ H', Same H H' → Q (.bl (isS c2 && (isS c3 && (endB es true c2 && endB es false c3)))) H' := hq1
    cases b2 : isS c2 with
    | false =>
      rw [b2] at hq3
      exact iteT (hq3 _ s1)
    | true =>
    rw [b2] at hq3
    refine iteF ?_
    obtain ⟨ty3, hty3, k3, _, _⟩ := (hx c3 (by simp)).ty (K := K)
    refine ⟨_, rfl, _, _, _, _, isS c3, rfl, .ty "str", hty3, k3, _, rfl, ?_⟩
    have hq4 : ∀ H', Same H H' → Q (.bl (isS c3 && (endB es true c2 && endB es false c3))) H' := hq3
    cases b3 : isS c3 with
    | false =>
      rw [b3] at hq4
      exact iteT (hq4 _ s1)
    | true =>
    rw [b3] at hq4
    obtain ⟨x, rfl⟩ : ∃ f, c2 = .str f := by cases c2 <;> first | exact ⟨_, rfl⟩ | cases b2
    obtain ⟨y, rfl⟩ : ∃ f, c3 = .str f := by cases c3 <;> first | exact ⟨_, rfl⟩ | cases b3
    have dg : ∀ z : Str, DGet H1 ed (.str z) ((endO es z).map V.bl) := fun z => .inl ⟨_, .inr z, .inl e1, rfl, by rw [kvE_val]⟩
    have hq5 : ∀ H', Same H H' → Q (.bl (decide (endO es x = some true) && decide (endO es y = some false))) H' := hq4
    refine iteF ⟨_, rfl, _, rfl, ed, _, rfl, dg x, _, rfl, ?_⟩
    have dx := dg x
    have dy := dg y
    cases e5 : endO es x with
    | none =>
      rw [e5] at hq5
      exact iteF (hq5 _ s1)
    | some b5 =>
    rw [e5] at hq5 dx
    refine iteT ⟨_, rfl, _, rfl, ed, _, rfl, dg y, _, rfl, ?_⟩
    cases e6 : endO es y with
    | none =>
      rw [e6] at hq5
      have : (decide (some b5 = some true) && decide ((none : Option Bool) = some false)) = false := by simp
      rw [this] at hq5
      exact iteF (hq5 _ s1)
    | some b6 =>
    rw [e6] at hq5 dy
    refine iteT ⟨_, rfl, _, rfl, ed, .bl b5, rfl, dx, _, rfl, ?_⟩
    have eb : ∀ b c : Bool, decide (some b = some c) = decide (b = c) := fun b c => by cases b <;> cases c <;> rfl
    rw [eb, eb] at hq5
    cases b5 with
    | false => exact iteF (hq5 _ s1)
    | true =>
      refine iteT ⟨_, rfl, _, rfl, ed, .bl b6, rfl, dy, _, rfl, ?_⟩
      cases b6
      · exact hq5 _ s1
      · exact hq5 _ s1
end
end Ts

set_option maxRecDepth 100000
set_option maxHeartbeats 8000000
namespace Ts
open PySem L2
open LamX (ExtN Tabs TabB)
theorem load_filt (rs : List Row) (z : Str) : ∀ css : List (List V), ((css.filter (onI rs z)).map amI).sum = loadI rs css z := by
  intro css
  unfold loadI
  induction css with
  | nil => rfl
  | cons c css ih =>
    rw [List.map_cons, List.sum_cons, ← ih]
    by_cases q : onI rs z c = true
    · rw [if_pos q, List.filter_cons_of_pos q, List.map_cons, List.sum_cons]
    · rw [if_neg q, List.filter_cons_of_neg q, Int.zero_add]
theorem filt_moreL {α : Type} {l : List α} {p : α → Bool} {i : Nat} {y : α} (h : l[i]? = some y) : (l.take (i + 1)).filter p = (l.take i).filter p ++ if p y = true then [y] else [] := by
  rw [take_more h, List.filter_append]
  by_cases q : p y = true
  · rw [if_pos q]; simp [q]
  · rw [if_neg q]; simp [q]
def spLAre : Sp := fun vs H Q _ => ∃ (p ed : Addr) (y : V) (rs : List Row) (es : Wsh) (o : Option (List (List V))), vs = [.ref p, .ref ed, y] ∧ RowsL H p rs ∧ Valid rs ∧ rs.length ≤ 100 ∧ H ed = some (.dK (kvE es)) ∧ EndsOk rs es ∧ WhV H y o ∧
  ∀ H', Same H H' → Q (.bl (isWaysB rs es o)) H'
section
variable {P : Program} {w : World} {K : PySem.W.Frag} {mg : Str → Option Value} {base : Heap} {C CB : Addr}
abbrev pLa : List Str := ["_law_rows_here", "_law_pins_here", "_law_thing"]
abbrev nLa : List Str := ["_law_rows_here", "_law_pins_here", "_law_thing", "_law_name_here", "_law_folder", "_law_kind", "_law_price", "_law_amounts", "_law_one", "_law_amount", "_law_other"]
theorem sc_Lare : FnScope nLa pLa (defScope s_L_are_ways) := ⟨rfl, rfl, rfl, by decide +kernel, rfl, by decide +kernel, by decide +kernel⟩
theorem ok_Lare (D : DefAt K mg "_law_are_ways" s_L_are_ways pLa) (B : TxB mg) (hA : mg "all" = none) (hS : mg "sum" = none)
    (Dt : DefAt K mg "_law_is_triple" s_L_is_triple pLtr) (Gt : FnOk P w K mg base CX0 2 Dt.f Dt.fd pLtr spLTriple)
    (Dw : DefAt K mg "_law_way_steps" s_L_way_steps pLs) (Gw : FnOk P w K mg base CX0 3 Dw.f Dw.fd pLs spLSteps) : FnOk P w K mg base CX0 4 D.f D.fd pLa spLAre := by
  refine D.F.ok sc_Lare (fun vs H Q E h => ?_) (fun cdv A outer s H vs Q E hr h => ?_)
  · obtain ⟨p, ed, y, rs, es, o, rfl, _⟩ := h
    rfl
  · obtain ⟨p, ed, y, rs, es, o, rfl, hL, hv, hl, hd, hok, hy, hq⟩ := h
    have hu := hu_of hr
    have r2 : Room 2 _ := hr.mono (by decide)
    refine ⟨_, pss_cons (ps_if (PW.pt (pw_or (pt_not (pt_val (pe_callB call_isiT (by rfl) B.isinstance (by decide +kernel) (pa_cons (pv 2) (pa_cons (pe_tup (pa_cons (pe_bltn (by rfl) B.list (by decide +kernel) (v := .ty "list") rfl) (pa_cons (pe_bltn (by rfl) B.tuple (by decide +kernel) (v := .ty "tuple") rfl) pa_nil))) pa_nil)))))
        (pw_or1 (pt_not (pt_val (pe_callB (cr_all rfl) (by rfl) hA (by decide +kernel) (pa_cons (pe_lc (own := [("_law_one", 8)]) (g := gName 8) (tt := tYes) (te := tCall spLTriple [] E0 (tCons (tVar 8) (tCons (tVar 1) tNil))) rfl sc_Lare.nd (pi_seqX (pv 2)) (blkOk_by (N := nLa) (sc := defScope s_L_are_ways) (by decide +kernel))
          (fun _ _ _ _ _ => pg_name (i := 8) sc_Lare.nd rfl (Or.inl rfl)) (fun _ _ _ _ _ => pts_nil) (fun _ _ _ _ _ => by exact pe_call Gt r2 rfl Dt.g Dt.F.kp Dt.b .nil pass0 (pa_cons (pv 8) (pa_cons (pv 1) pa_nil)))) pa_nil))))))) (pss_one (ps_ret pe_bl)) pss_nil)
      (pss_cons (ps_for PassesOwn.never rfl (pi_list (pv 0)) (pg_tup rfl (pgs_cons (pg_name (i := 3) sc_Lare.nd rfl (.inr rfl)) (pgs_cons (pg_name (i := 4) sc_Lare.nd rfl (.inl rfl)) (pgs_cons (pg_name (i := 5) sc_Lare.nd rfl (.inl rfl)) (pgs_cons (pg_name (i := 6) sc_Lare.nd rfl (.inl rfl)) pgs_nil)))))
        (pss_cons (ps_setLc (i := 7) (own := [("_law_amount", 9), ("_law_one", 8), ("_law_other", 10)]) (g := gOr (gTup K 3 (gCons (gName 9) (gCons (gName 8) (gCons (gName 10) gNil)))) (gUnl K 3 (gCons (gName 9) (gCons (gName 8) (gCons (gName 10) gNil))))) (tt := tTest (tOp (rIn K false) (tVar 3) (tCall spLSteps [] E0 (tCons (tVar 0) (tCons (tVar 8) (tCons (tVar 10) tNil)))))) (te := tVar 9) rfl sc_Lare.nd rfl rfl (sw_true rfl rfl rfl (by decide +kernel)) (pi_seqX (pv 2)) (blkOk_by (N := nLa) (sc := defScope s_L_are_ways) (by decide +kernel))
          (fun _ _ _ _ _ => pg_or2 (pg_tup rfl (pgs_cons (pg_name (i := 9) sc_Lare.nd rfl (Or.inl rfl)) (pgs_cons (pg_name (i := 8) sc_Lare.nd rfl (Or.inl rfl)) (pgs_cons (pg_name (i := 10) sc_Lare.nd rfl (Or.inl rfl)) pgs_nil)))) (pg_unl rfl (pgs_cons (pg_name (i := 9) sc_Lare.nd rfl (Or.inl rfl)) (pgs_cons (pg_name (i := 8) sc_Lare.nd rfl (Or.inl rfl)) (pgs_cons (pg_name (i := 10) sc_Lare.nd rfl (Or.inl rfl)) pgs_nil)))))
          (fun _ _ _ _ _ => by exact pts_one (pt_cmpR op_in_seq (pv 3) (pe_call Gw hr rfl Dw.g Dw.F.kp Dw.b .nil pass0 (pa_cons (pv 0) (pa_cons (pv 8) (pa_cons (pv 10) pa_nil)))) (by rfl))) (fun _ _ _ _ _ => pv 9))
        (pss_one (ps_if (PW.pt (pw_and (pt_cmpR op_notN (pv 6) pe_non (nomark _)) (pw_and1 (pt_cmpR op_gt (pe_callB (cr_sum rfl) (by rfl) hS (by decide +kernel) (pa_cons (pv 7) pa_nil)) (pv 6) (nomark _))))) (pss_one (ps_ret pe_bl)) pss_nil))))
      (pss_one (ps_ret pe_bl))), ?_⟩
    refine ⟨_, rfl, (by show 2 ≤ sizeLine; decide), fun tp htp => ?_⟩
    have s2 : Same H (upd H tp (.tup [.ty "list", .ty "tuple"])) := Same.new htp
    rcases hy.ext (Same.x s2) with ⟨rfl, hn⟩ | ⟨a, ys, css, rfl, rfl, hsq, hth, hlen⟩
    · obtain ⟨ty0, ty, kk⟩ := hn.ty (K := K)
      exact ⟨_, tp, _, ty0, _, false, rfl, upd_same, .cons (.ty "list") (.cons (.ty "tuple") .nil), ty, kk, _, rfl, iteT (hq _ s2)⟩
    obtain ⟨ty0, ty, kk⟩ := hsq.ty (K := K)
    refine ⟨_, tp, _, ty0, _, true, rfl, upd_same, .cons (.ty "list") (.cons (.ty "tuple") .nil), ty, kk, _, rfl, iteF ?_⟩
    have e2 := s2 _ _ hd
    have L2 := hL.same s2
    generalize upd H tp (.tup [.ty "list", .ty "tuple"]) = H2 at s2 hsq hth e2 L2
    have lys : ys.length = css.length := hth.len
    have sqx : ∀ {H' : Hp}, Same H2 H' → SqX K H' a ys := fun {H'} s => (hsq.same s).or
    refine ⟨a, ys, rfl, sqx (Same.refl _), fun J wk D hD => ?_⟩
    have hao : ∃ oa, H2 a = some oa := hsq.elim (fun h => ⟨_, h⟩) fun h => ⟨_, h⟩
    obtain ⟨oa, hoa⟩ := hao
    refine lc_it wk (fun i H' => Same H2 H' ∧ H' D = some (.lst (((css.take i).map (wayB es)).map V.bl))) ⟨Same.new hD, upd_same⟩ (fun i H' _ m => by rw [m.1 _ _ hoa, hoa]) ?_ ?_
    · rintro i x H3x H3 hi ⟨s3, e3⟩ ⟨rfl, hx⟩
      obtain ⟨cs, hcs⟩ : ∃ cs, css[i]? = some cs := ⟨_, List.getElem?_eq_getElem (by omega)⟩
      refine ⟨rfl, tYes_if ⟨_, rfl, _, rfl, ed, x, cs, es, rfl, s3 _ _ e2, (hth.at_ i x cs hx hcs).ext (Same.x s3), fun H4 s4 => ⟨_, s4 _ _ e3, small1000 (by rw [List.length_map, List.length_map, List.length_take]; omega), fun b o eb => ?_, ?_⟩⟩⟩
      · rw [upd_ne (ne_of_none eb hD)]; exact s4 _ _ (s3 _ _ eb)
      · rw [upd_same, take_more hcs, List.map_append, List.map_append]; rfl
    rintro H3 ⟨s3, e3⟩
    rw [lys, List.take_length] at e3
    refine ⟨D, _, rfl, SqL.of e3, _, rfl, ?_⟩
    have eall : (css.map (wayB es)).all id = css.all (wayB es) := by rw [List.all_map]; rfl
    rw [eall]
    have S3 := s2.trans s3
    cases call : css.all (wayB es) with
    | false =>
      refine iteT (hq _ S3 |> fun h => ?_)
      have : isWaysB rs es (some css) = false := by show (css.all (wayB es) && _) = false; rw [call]; rfl
      rw [this] at h
      exact h
    | true =>
    refine iteF ?_
    have hways : ∀ cs ∈ css, wayB es cs = true := fun cs h => List.all_eq_true.mp call cs h
    have hq2 : ∀ H' b, Same H H' → b = rs.all (okR rs css) → Q (.bl b) H' := fun H' b s eb => by
      have := hq H' s
      have e : isWaysB rs es (some css) = rs.all (okR rs css) := by show (css.all (wayB es) && _) = _; rw [call]; rfl
      rw [e, ← eb] at this
      exact this
    have L3 := L2.same s3
    obtain ⟨as, hp, hrows⟩ := id L3.ex
    refine ⟨_, rfl, p, rfl, ⟨_, SqL.of hp⟩, ?_⟩
    refine for_list (K := K) (a := p) (xs := as.map V.ref) (fun i σ H' => ∃ v3 v4 v5 v6 v7 : Option V, σ = [some (.ref p), some (.ref ed), some (.ref a), v3, v4, v5, v6, v7, none, none, none] ∧ Same H3 H' ∧ ∀ r ∈ rs.take i, okR rs css r = true) ⟨none, none, none, none, none, rfl, Same.refl _, fun r h => by cases h⟩ (fun i σ H' _ ⟨_, _, _, _, _, _, s, _⟩ => SqL.of (s _ _ hp)) ?_ ?_
    · rintro i x σ H4 hx ⟨v3, v4, v5, v6, v7, rfl, s4, hb⟩
      obtain ⟨ra, r, rfl, hra, hr', e0⟩ := rows_at hrows hx
      have S34 := s3.trans s4
      refine ⟨ra, _, rfl, sqT (s4 _ _ e0), rfl, _, _, rfl, _, _, rfl, _, _, rfl, _, _, rfl, rfl, ?_⟩
      refine ⟨a, ys, rfl, sqx S34, fun J2 wk2 F hF => ?_⟩
      refine lc_it wk2 (fun j H' => Same H4 H' ∧ H' F = some (.lst ((((css.take j).filter (onI rs r.nm)).map amI).map V.int))) ⟨Same.new hF, upd_same⟩ (fun j H' _ m => by rw [m.1 _ _ (S34 _ _ hoa), S34 _ _ hoa]) ?_ ?_
      · rintro j x H5x H5 hj ⟨s5, e5⟩ ⟨rfl, hxj⟩
        obtain ⟨cs, hcs⟩ : ∃ cs, css[j]? = some cs := ⟨_, List.getElem?_eq_getElem (by omega)⟩
        have hw := hways cs (List.mem_of_getElem? hcs)
        have S25 := S34.trans s5
        have hti := (hth.at_ j x cs hxj hcs).ext (Same.x S25)
        obtain ⟨n, x1, x2, rfl, hn1, hx1, hx2⟩ := way_inv hw
        obtain ⟨a', rfl, hsa⟩ : ∃ a', x = .ref a' ∧ Seq H5 a' [.int n, .str x1, .str x2] := by
          rcases hti with ⟨_, e⟩ | ⟨a', e, h, _⟩
          · cases e
          · exact ⟨a', e, h⟩
        have hp1 := mem_plc.mpr (end_plc hok hx1)
        have hp2 := mem_plc.mpr (end_plc hok hx2)
        have lt : (((css.take j).filter (onI rs r.nm)).map amI).length ≤ 100 := by
          rw [List.length_map]
          refine Nat.le_trans (List.length_filter_le _ _) ?_
          rw [List.length_take]; omega
        have eon : onI rs r.nm [.int n, .str x1, .str x2] = decide (r.nm ∈ stepsL rs x1 x2) := rfl
        have un := hsa.or (K := K)
        rcases un with un | un
        case' inl => refine .inr ⟨a', _, rfl, un, rfl, _, _, rfl, _, _, rfl, _, _, rfl, rfl, ?_⟩
        case' inr => refine .inl ⟨a', _, rfl, un, rfl, _, _, rfl, _, _, rfl, _, _, rfl, rfl, ?_⟩
        all_goals
          refine ⟨rfl, _, rfl, _, rfl, _, rfl, _, rfl, p, x1, x2, rs, rfl, (L3.same s4).same s5, hv, hl, hp1, hp2, fun G H6 hG s6 e6 => ?_⟩
          refine ⟨G, _, rfl, .inl (SqL.of e6), rfl, flat_strs _, _, rfl, ?_⟩
          rw [show (if false = true then !inV (.str r.nm) ((lawSteps rs x1 x2).map V.str) else inV (.str r.nm) ((lawSteps rs x1 x2).map V.str)) = decide (r.nm ∈ stepsL rs x1 x2) by rw [if_neg Bool.false_ne_true, inV_strs]; exact decide_eq_decide.mpr (mem_lawSteps hv x1 x2 r.nm)]
          rw [filt_moreL hcs, eon]
          refine ite2 (fun hb2 => ?_) (fun hb2 => ?_)
          · refine ⟨_, rfl, _, s6 _ _ e5, small1000 (by rw [List.length_map]; omega), fun b o eb2 => ?_, ?_⟩
            · rw [upd_ne (ne_of_none eb2 hF)]; exact s6 _ _ (s5 _ _ eb2)
            · rw [upd_same, if_pos hb2, List.map_append, List.map_append]; rfl
          · refine ⟨s5.trans s6, ?_⟩
            rw [if_neg hb2, List.append_nil]
            exact s6 _ _ e5
      rintro H5 ⟨s5, e5⟩
      rw [lys, List.take_length] at e5
      have S5 := S3.trans (s4.trans s5)
      have eok : okR rs css r = match r.pr with | none => true | some p => decide (loadI rs css r.nm ≤ p) := rfl
      refine ⟨_, rfl, rfl, _, rfl, ?_⟩
      have stp : okR rs css r = true → ∃ v3 v4 v5 v6 v7 : Option V, [some (V.ref p), some (.ref ed), some (.ref a), some (.str r.nm), some (.str r.fo), some (.str r.ki), some (prV r.pr), some (.ref F), none, none, none] = [some (V.ref p), some (.ref ed), some (.ref a), v3, v4, v5, v6, v7, none, none, none] ∧ Same H3 H5 ∧ ∀ q ∈ rs.take (i + 1), okR rs css q = true := fun h => ⟨_, _, _, _, _, rfl, s4.trans s5, fun q hq' => by
        rw [take_more hr'] at hq'
        rcases List.mem_append.mp hq' with m | m
        · exact hb q m
        · rw [List.mem_singleton.mp m]; exact h⟩
      cases c : r.pr with
      | none =>
        rw [c] at eok stp
        exact iteF' (by rfl) (iteF (stp eok))
      | some pp =>
        rw [c] at eok stp
        refine iteT' (by rfl) ⟨_, rfl, F, _, rfl, SqL.of e5, _, rfl, _, _, rfl, rfl, _, rfl, ?_⟩
        rw [load_filt]
        by_cases q : loadI rs css r.nm ≤ pp
        · rw [decide_eq_false (by omega)]
          exact iteF (stp (by rw [eok]; exact decide_eq_true q))
        · rw [decide_eq_true (by omega)]
          refine iteT (hq2 _ _ S5 ?_)
          symm
          rw [List.all_eq_false]
          exact ⟨r, List.mem_of_getElem? hr', by rw [eok]; simp [q]⟩
    rintro σ H4 ⟨v3, v4, v5, v6, v7, rfl, s4, hb⟩
    rw [List.length_map, hrows.len, List.take_length] at hb
    refine hq2 _ _ (S3.trans s4) ?_
    symm
    exact List.all_eq_true.mpr hb
end
end Ts

set_option maxRecDepth 100000
set_option maxHeartbeats 4000000
namespace Ts
open PySem L2
/-! ### no step bears more than its price -/
def gAt (rs : List Row) (z : Str) : Str → Int := fun e => if z ∈ wayOf rs e then 1 else 0
theorem gAt01 (rs : List Row) (z : Str) : G01 (gAt rs z) := fun e => by unfold gAt; split <;> simp
theorem way_in {rs pre suf : List Row} (hv : Valid rs) (e : rs = pre ++ suf) {y z : Str} (hy : y ∈ plc pre) (h : z ∈ wayOf rs y) : z ∈ names pre := by
  have et : rs.take pre.length = pre := by rw [e, List.take_append_of_le_length (Nat.le_refl _), List.take_length]
  rcases mem_plc.mp hy with rfl | hy
  · rw [way_top hv] at h; cases h
  · have := way_pre hv pre.length (z := y) (x := z) (by rw [et]; exact hy) h
    rw [et] at this; exact this
def waitW (rs : List Row) (es : Wsh) (g : Str → Int) (suf : List Row) (y : Str) : Int := wP g ((waysS rs es suf).2 y true) + wP g ((waysS rs es suf).2 y false)
def allW (rs : List Row) (es : Wsh) (g : Str → Int) (pre suf : List Row) : Int := wX g (waysS rs es suf).1 + ((plc pre).map (waitW rs es g suf)).sum
theorem wX_zero {g : Str → Int} {l : List Way3} (h : ∀ e ∈ l, g e.2.1 = g e.2.2) : wX g l = 0 := by
  unfold wX
  induction l with
  | nil => rfl
  | cons a l ih =>
    rw [List.map_cons, List.sum_cons, ih fun e he => h e (List.mem_cons_of_mem _ he)]
    unfold bearI
    rw [if_pos (h a (List.mem_cons_self ..))]; rfl
theorem wP_zero {g : Str → Int} {l : List Part} (h : ∀ e ∈ l, g e.2 = 0) : wP g l = 0 := by
  unfold wP
  induction l with
  | nil => rfl
  | cons a l ih =>
    rw [List.map_cons, List.sum_cons, ih fun e he => h e (List.mem_cons_of_mem _ he), h a (List.mem_cons_self ..), Int.mul_zero]; rfl
/-- at a place: what is met there -/
theorem meet_w {rs : List Row} (hv : Valid rs) {es : Wsh} {pre suf : List Row} (e : rs = pre ++ suf) (wt : WtOk rs es pre suf) {y z : Str} (hy : y ∈ plc pre) (hz : z ∉ wayOf rs y) :
    wX (gAt rs z) (meetP rs es (waysS rs es suf).2 y).1 + wP (gAt rs z) (sideP (meetP rs es (waysS rs es suf).2 y) true) + wP (gAt rs z) (sideP (meetP rs es (waysS rs es suf).2 y) false) ≤ waitW rs es (gAt rs z) suf y := by
  have m := meet_r hv wt hy
  have h1 := m.wt _ (gAt01 rs z)
  have ez : wX (gAt rs z) [] = 0 := rfl
  rw [ez] at h1
  have le : ∀ b, wP (gAt rs z) (endP rs es (waysS rs es suf).2 y b) ≤ wP (gAt rs z) ((waysS rs es suf).2 y b) := fun b => by
    unfold endP
    split
    · have : wP (gAt rs z) [(endlessI rs, y)] = 0 := wP_zero fun x hx => by
        rw [List.mem_singleton.mp hx]
        unfold gAt
        exact if_neg hz
      rw [this]
      exact wP_nn (gAt01 rs z) fun x hx => (wt.part y hy b x hx).1
    · exact Int.le_refl _
  have l1 := le true
  have l2 := le false
  show wX _ _ + wP _ (meetP rs es (waysS rs es suf).2 y).2.1 + wP _ (meetP rs es (waysS rs es suf).2 y).2.2 ≤ _
  unfold waitW
  omega
theorem wait_step {rs : List Row} (hv : Valid rs) {es : Wsh} {pre suf : List Row} {r : Row} (e : rs = pre ++ r :: suf) (g : Str → Int) :
    ((plc pre).map (waitW rs es g (r :: suf))).sum = ((plc pre).map (waitW rs es g suf)).sum + (wP g (letL (sideP (meetP rs es (waysS rs es suf).2 r.nm) true) (stepR rs r)) + wP g (letL (sideP (meetP rs es (waysS rs es suf).2 r.nm) false) (stepR rs r))) := by
  have hv' := hv
  rw [e] at hv'
  have hf := fits_at hv'
  have hp := valid_pre hv'
  rw [← sum_one (plc_nodup hp) (fo_pre hf)]
  congr 1
  refine List.map_congr_left fun y _ => ?_
  show wP g (if y = r.fo then (waysS rs es suf).2 y true ++ letL (sideP (meetP rs es (waysS rs es suf).2 r.nm) true) (stepR rs r) else (waysS rs es suf).2 y true) + wP g (if y = r.fo then (waysS rs es suf).2 y false ++ letL (sideP (meetP rs es (waysS rs es suf).2 r.nm) false) (stepR rs r) else (waysS rs es suf).2 y false) = _
  by_cases q : y = r.fo
  · rw [if_pos q, if_pos q, if_pos q, wP_app, wP_app]
    unfold waitW; omega
  · rw [if_neg q, if_neg q, if_neg q]; rfl
/-- once the step of a box is passed, no more of it is borne -/
theorem cap_main {rs : List Row} (hv : Valid rs) {es : Wsh} {rz : Row} {pre0 suf0 : List Row} (e0 : rs = pre0 ++ rz :: suf0) : ∀ (mid pre : List Row), pre0 = pre ++ mid → allW rs es (gAt rs rz.nm) pre (mid ++ rz :: suf0) ≤ stepR rs rz
  | [], pre, e => by
    rw [List.append_nil] at e
    subst e
    have e' : rs = (pre0 ++ [rz]) ++ suf0 := by rw [List.append_assoc]; exact e0
    have wt := wt_ok hv (es := es) suf0 (pre0 ++ [rz]) e'
    have hrm : rz ∈ rs := by rw [e0]; simp
    have hv' := hv
    rw [e0] at hv'
    have hf := fits_at hv'
    have hy : rz.nm ∈ plc (pre0 ++ [rz]) := by rw [plc_snoc]; simp
    have hn : rz.nm ∈ names (pre0 ++ [rz]) := by rw [names_snoc]; simp
    have st := step_nn hv hrm
    have m := meet_r hv wt hy
    have w0 : wX (gAt rs rz.nm) (waysS rs es (rz :: suf0)).1 = 0 := wX_zero fun x hx => by
      have key : rz.nm ∈ wayOf rs x.2.1 ↔ rz.nm ∈ wayOf rs x.2.2 := by
        rcases List.mem_append.mp (show x ∈ (waysS rs es suf0).1 ++ (meetP rs es (waysS rs es suf0).2 rz.nm).1 from hx) with hx | hx
        · exact (wt.way x hx).2.2.2 _ hn
        · rcases m.ew x hx with k | ⟨k1, ⟨e1, k2, k3⟩, ⟨e2, k4, k5⟩⟩
          · cases k
          · have a3 := (end_part hv wt hy true e1 k2).2.2 _ hn
            have b3 := (end_part hv wt hy false e2 k4).2.2 _ hn
            rw [k3] at a3
            rw [k5] at b3
            exact a3.trans b3.symm
      unfold gAt
      by_cases c : rz.nm ∈ wayOf rs x.2.1
      · rw [if_pos c, if_pos (key.mp c)]
      · rw [if_neg c, if_neg fun k => c (key.mpr k)]
    have s0 : ((plc pre0).map (waitW rs es (gAt rs rz.nm) suf0)).sum = 0 := by
      have : (plc pre0).map (waitW rs es (gAt rs rz.nm) suf0) = (plc pre0).map fun _ => (0 : Int) := List.map_congr_left fun y hyp => by
        have hyp' : y ∈ plc (pre0 ++ [rz]) := by rw [plc_snoc]; exact List.mem_append_left _ hyp
        have z0 : ∀ b, wP (gAt rs rz.nm) ((waysS rs es suf0).2 y b) = 0 := fun b => wP_zero fun x hx => by
          unfold gAt
          refine if_neg fun q => ?_
          have := way_in hv e0 hyp (((wt.part y hyp' b x hx).2.2 _ hn).mp q)
          exact hf.new this
        unfold waitW
        rw [z0, z0]; rfl
      rw [this]
      generalize plc pre0 = l
      induction l with
      | nil => rfl
      | cons a l ih => rw [List.map_cons, List.sum_cons, ih]; rfl
    unfold allW
    rw [List.nil_append, w0, wait_step hv e0, s0]
    have lw : ∀ b, wP (gAt rs rz.nm) (letL (sideP (meetP rs es (waysS rs es suf0).2 rz.nm) b) (stepR rs rz)) ≤ stepR rs rz := fun b => by
      have h1 := wP_le (gAt01 rs rz.nm) (let_pos (l := sideP (meetP rs es (waysS rs es suf0).2 rz.nm) b) (p := stepR rs rz))
      rw [let_sum (side_part hv wt hy b).1 st] at h1
      omega
    have l1 := lw true
    have l2 := lw false
    rcases m.one with k | k
    · have : letL (sideP (meetP rs es (waysS rs es suf0).2 rz.nm) true) (stepR rs rz) = [] := by
        show letL (meetP rs es (waysS rs es suf0).2 rz.nm).2.1 _ = []
        rw [k]; rfl
      rw [this]
      show 0 + (0 + (0 + _)) ≤ _
      omega
    · have : letL (sideP (meetP rs es (waysS rs es suf0).2 rz.nm) false) (stepR rs rz) = [] := by
        show letL (meetP rs es (waysS rs es suf0).2 rz.nm).2.2 _ = []
        rw [k]; rfl
      rw [this]
      show 0 + (0 + (_ + 0)) ≤ _
      omega
  | r :: mid, pre, e => by
    have ih := cap_main hv (es := es) e0 mid (pre ++ [r]) (by rw [List.append_assoc]; exact e)
    have e2 : rs = pre ++ r :: (mid ++ rz :: suf0) := by rw [e0, e, List.append_assoc]; rfl
    have e3 : rs = (pre ++ [r]) ++ (mid ++ rz :: suf0) := by rw [List.append_assoc]; exact e2
    have wt := wt_ok hv (es := es) (mid ++ rz :: suf0) (pre ++ [r]) e3
    have hy : r.nm ∈ plc (pre ++ [r]) := by rw [plc_snoc]; simp
    have hrm : r ∈ rs := by rw [e2]; simp
    have st := step_nn hv hrm
    have hv' := hv
    rw [e0] at hv'
    have hf := fits_at hv'
    have hz : rz.nm ∉ wayOf rs r.nm := fun q => by
      have h1 := way_in hv e3 hy q
      refine hf.new ?_
      rw [e, List.map_append]
      rw [names_snoc] at h1
      rcases List.mem_append.mp h1 with h1 | h1
      · exact List.mem_append_left _ h1
      · rw [List.mem_singleton.mp h1]; simp
    have mw := meet_w hv e3 wt hy hz
    show allW rs es (gAt rs rz.nm) pre (r :: (mid ++ rz :: suf0)) ≤ _
    generalize mid ++ rz :: suf0 = suf at *
    unfold allW at ih ⊢
    rw [wait_step hv e2]
    rw [plc_snoc, List.map_append, List.sum_append] at ih
    have es1 : ([r.nm].map (waitW rs es (gAt rs rz.nm) suf)).sum = waitW rs es (gAt rs rz.nm) suf r.nm := by show _ + 0 = _; omega
    rw [es1] at ih
    have ew : wX (gAt rs rz.nm) (waysS rs es (r :: suf)).1 = wX (gAt rs rz.nm) (waysS rs es suf).1 + wX (gAt rs rz.nm) (meetP rs es (waysS rs es suf).2 r.nm).1 := wX_app _ _ _
    rw [ew]
    have l1 := let_w (gAt01 rs rz.nm) (side_part hv wt hy true).1 st
    have l2 := let_w (gAt01 rs rz.nm) (side_part hv wt hy false).1 st
    omega
theorem ways_cap {rs : List Row} (hv : Valid rs) {es : Wsh} {r : Row} (hr : r ∈ rs) : wX (gAt rs r.nm) (waysF rs es) ≤ stepR rs r := by
  obtain ⟨pre0, suf0, e0⟩ := List.append_of_mem hr
  have h := cap_main hv (es := es) e0 pre0 [] rfl
  rw [← e0] at h
  have wt := wt_ok hv (es := es) rs [] rfl
  have hy : ("top" : Str) ∈ plc [] := mem_plc.mpr (.inl rfl)
  have mw := meet_w hv (pre := []) rfl wt hy (show r.nm ∉ wayOf rs "top" by rw [way_top hv]; exact List.not_mem_nil)
  have n1 := wP_nn (gAt01 rs r.nm) (side_part hv wt hy true).1
  have n2 := wP_nn (gAt01 rs r.nm) (side_part hv wt hy false).1
  unfold waysF
  rw [wX_app]
  unfold allW at h
  have ep : ((plc []).map (waitW rs es (gAt rs r.nm) rs)).sum = waitW rs es (gAt rs r.nm) rs "top" := by show _ + 0 = _; omega
  rw [ep] at h
  omega
/-! ### as the law and the program look at them -/
def wayCs (e : Way3) : List V := [.int e.1, .str e.2.1, .str e.2.2]
theorem ways_ends {rs : List Row} (hv : Valid rs) {es : Wsh} : ∀ e ∈ waysF rs es, 1 ≤ e.1 ∧ endO es e.2.1 = some true ∧ endO es e.2.2 = some false := fun e he => by
  have wt := wt_ok hv (es := es) rs [] rfl
  have hy : ("top" : Str) ∈ plc [] := mem_plc.mpr (.inl rfl)
  rcases List.mem_append.mp he with h | h
  · exact ⟨(wt.way e h).1, (wt.way e h).2.1, (wt.way e h).2.2.1⟩
  · rcases (meet_r hv wt hy).ew e h with k | ⟨k1, ⟨e1, k2, k3⟩, ⟨e2, k4, k5⟩⟩
    · cases k
    · have a := (end_part hv wt hy true e1 k2).2.1
      have b := (end_part hv wt hy false e2 k4).2.1
      rw [k3] at a
      rw [k5] at b
      exact ⟨k1, a, b⟩
theorem count_nd {z : Str} : ∀ {l : List Str}, l.Nodup → l.count z = if z ∈ l then 1 else 0
  | [], _ => rfl
  | a :: l, nd => by
    rw [List.nodup_cons] at nd
    rw [List.count_cons, count_nd nd.2]
    by_cases q : a = z
    · subst q
      rw [if_neg nd.1, if_pos (List.mem_cons_self ..)]; simp
    · have : (z ∈ a :: l) ↔ z ∈ l := ⟨fun h => (List.mem_cons.mp h).resolve_left fun x => q x.symm, List.mem_cons_of_mem _⟩
      simp only [this]
      simp [q]
theorem count_one {rs : List Row} (hv : Valid rs) (x y z : Str) : (wayOf rs x ++ wayOf rs y).count z = 1 ↔ gAt rs z x ≠ gAt rs z y := by
  have nx := (wayOf_nd hv x).1
  have ny := (wayOf_nd hv y).1
  rw [List.count_append]
  unfold gAt
  have cx := count_nd (z := z) nx
  have cy := count_nd (z := z) ny
  rw [cx, cy]
  split <;> split <;> simp
theorem load_ways {rs : List Row} (hv : Valid rs) {z : Str} (hz : z ∈ names rs) : ∀ l : List Way3, loadI rs (l.map wayCs) z = wX (gAt rs z) l
  | [] => rfl
  | e :: l => by
    have ih := load_ways hv hz l
    unfold loadI wX at ih ⊢
    rw [List.map_cons, List.map_cons, List.sum_cons, List.map_cons, List.sum_cons, ih]
    congr 1
    show (if decide (z ∈ stepsL rs e.2.1 e.2.2) = true then e.1 else 0) = bearI (gAt rs z) e
    unfold bearI
    have k : z ∈ stepsL rs e.2.1 e.2.2 ↔ gAt rs z e.2.1 ≠ gAt rs z e.2.2 := by
      unfold stepsL
      rw [List.mem_filter, decide_eq_true_iff, count_one hv]
      exact ⟨fun h => h.2, fun h => ⟨hz, h⟩⟩
    by_cases c : gAt rs z e.2.1 = gAt rs z e.2.2
    · rw [if_pos c, if_neg (by simp only [decide_eq_true_eq]; exact fun q => k.mp q c)]
    · rw [if_neg c, if_pos (decide_eq_true (k.mpr c))]
theorem ways_right {rs : List Row} (hv : Valid rs) (es : Wsh) : isWaysB rs es (some ((waysF rs es).map wayCs)) = true := by
  show waysB rs es _ = true
  unfold waysB
  rw [Bool.and_eq_true, List.all_eq_true, List.all_eq_true]
  refine ⟨fun cs hcs => ?_, fun r hr => ?_⟩
  · obtain ⟨e, he, rfl⟩ := List.mem_map.mp hcs
    obtain ⟨h1, h2, h3⟩ := ways_ends hv e he
    show (numB 1 (.int e.1) && (isS (.str e.2.1) && (isS (.str e.2.2) && (endB es true (.str e.2.1) && endB es false (.str e.2.2))))) = true
    have a : numB 1 (.int e.1) = true := decide_eq_true h1
    have b : endB es true (.str e.2.1) = true := decide_eq_true h2
    have c : endB es false (.str e.2.2) = true := decide_eq_true h3
    rw [a, b, c]; rfl
  · unfold okR
    cases c : r.pr with
    | none => rfl
    | some p =>
      refine decide_eq_true ?_
      rw [load_ways hv (show r.nm ∈ names rs from List.mem_map.mpr ⟨r, hr, rfl⟩)]
      have := ways_cap hv (es := es) hr
      unfold stepR at this
      rw [c] at this
      exact this
end Ts

set_option maxRecDepth 100000
set_option maxHeartbeats 1000000
namespace Ts
open PySem PySem.Spec PyProof.Rows L2 SeqAt
/-- a list == [] -/
def rEqNil (K : PySem.W.Frag) : R2 := fun x y H Q => ∃ (a b : Addr) (xs : List V), x = .ref a ∧ y = .ref b ∧ SqL K H a xs ∧ SqL K H b [] ∧ Q (.bl xs.isEmpty) H
theorem op_eqNil {X : Cx} (hu : X.A.units < cLine) : OpR X (compareOp .Eq) (rEqNil X.K) := by
  intro pins s σ H x y v u Q I rx ry h
  obtain ⟨a, b, xs, rfl, rfl, ha, hb, q⟩ := h
  cases (show v = Value.ref a from rx)
  cases (show u = Value.ref b from ry)
  obtain ⟨us, r1, p1, _⟩ := I.list ha
  obtain ⟨ws, r2, p2, _⟩ := I.list hb
  have l1 := r1.length
  have l2 := r2.length
  cases xs with
  | nil =>
    refine eq_listAt (e := fun _ => true) p1.isList p2.isList (by rw [List.size_toArray, List.size_toArray, ← l1, ← l2]) hu (fun j h1 h2 => ?_) ?_
    · rw [List.size_toArray, ← l1] at h1
      exact absurd h1 (by simp)
    · rw [List.size_toArray, ← l1]
      exact ⟨.bl true, H, I, rfl, q⟩
  | cons c cs =>
    refine eq_list_lengthsAt p1.isList p2.isList ?_ hu ⟨.bl false, H, I, rfl, q⟩
    rw [List.size_toArray, List.size_toArray, ← l1, ← l2]
    simp
end Ts

set_option maxRecDepth 100000
set_option maxHeartbeats 8000000
namespace Ts
open PySem L2
open LamX (ExtN Tabs TabB)
theorem get_eq (o : Option Bool) (b : Bool) : decide ((o.map V.bl).getD (.bl b) = V.bl b) = !decide (o = some (!b)) := by
  cases o with
  | none => simp
  | some c => cases b <;> cases c <;> simp
theorem get_flat (o : Option Bool) (b c : Bool) : scal ((o.map V.bl).getD (.bl b)) (.bl c) = true := by cases o <;> rfl
def topBrd (es : Wsh) (d : Option Bool) : Bool := match d with
  | none => false
  | some b => decide (endO es "top" = some (!b))
theorem topBrd_iff (es : Wsh) (d : Option Bool) : topBrd es d = true ↔ ∃ b, endO es "top" = some b ∧ d = some (!b) := by
  cases d with
  | none => exact ⟨(fun h => by cases h), fun ⟨b, _, h⟩ => by cases h⟩
  | some c =>
    refine ⟨fun h => ⟨!c, of_decide_eq_true h, by rw [Bool.not_not]⟩, fun ⟨b, h, e⟩ => ?_⟩
    cases e
    exact decide_eq_true (by rw [Bool.not_not]; exact h)
def statesL (rs : List Row) (es : Wsh) (d : Option Bool) : List Sta := if topBrd es d = true then [] else allS (topE d es) rs
theorem states_nil {rs : List Row} (hv : Valid rs) {es : Wsh} (ok : EndsOk rs es) (l : es.length ≤ 150) (d : Option Bool) : statesL rs es d = [] ↔ ¬ OkW rs es d := by
  unfold statesL OkW
  by_cases h : topBrd es d = true
  · rw [if_pos h]
    refine ⟨fun _ => fun ⟨h1, _⟩ => ?_, fun _ => rfl⟩
    obtain ⟨b, hb, hd⟩ := (topBrd_iff es d).mp h
    exact h1 b hb hd
  · rw [if_neg h, allS_nil hv (topE_ok ok l d)]
    have h1 : ∀ b, endO es "top" = some b → d ≠ some (!b) := fun b hb hd => h ((topBrd_iff es d).mpr ⟨b, hb, hd⟩)
    exact ⟨fun n ⟨_, o⟩ => n o, fun n o => n ⟨h1, o⟩⟩
/-! ### locked steps alone between two ends -/
theorem way_lock {rs : List Row} (hv : Valid rs) : ∀ x ∈ plc rs, (∀ z ∈ wayOf rs x, z ∈ wayOf rs (lockR rs x) ∨ lockedB rs z = true) ∧ ∀ z ∈ wayOf rs (lockR rs x), z ∈ wayOf rs x := by
  have key : ∀ (n : Nat), n ≤ rs.length → ∀ r ∈ rs.take n, (∀ z ∈ wayOf rs r.nm, z ∈ wayOf rs (lockR rs r.nm) ∨ lockedB rs z = true) ∧ ∀ z ∈ wayOf rs (lockR rs r.nm), z ∈ wayOf rs r.nm := by
    intro n
    induction n with
    | zero => exact fun _ r hr => by cases hr
    | succ n ih =>
      intro hn r hr
      have hrn : rs[n]? = some rs[n] := List.getElem?_eq_getElem (by omega)
      rw [take_more hrn] at hr
      rcases List.mem_append.mp hr with hr | hr
      · exact ih (by omega) r hr
      have er : r = rs[n] := List.mem_singleton.mp hr
      have hrm : r ∈ rs := by rw [er]; exact List.getElem_mem _
      rw [lockR_row hv hrm]
      by_cases q : r.pr = none
      · rw [if_pos q]
        have up : (∀ z ∈ wayOf rs r.fo, z ∈ wayOf rs (lockR rs r.fo) ∨ lockedB rs z = true) ∧ ∀ z ∈ wayOf rs (lockR rs r.fo), z ∈ wayOf rs r.fo := by
          rcases (hv n r (by rw [er]; exact hrn)).home with eh | ⟨q', hq, eh, _⟩
          · rw [eh, lockR_top hv]; exact ⟨fun z h => .inl h, fun z h => h⟩
          · rw [← eh]; exact ih (by omega) q' hq
        rw [way_step hv hrm]
        refine ⟨fun z hz => ?_, fun z hz => List.mem_append_left _ (up.2 z hz)⟩
        rcases List.mem_append.mp hz with hz | hz
        · exact up.1 z hz
        · rw [List.mem_singleton.mp hz, lockB_row hv hrm]
          exact .inr (decide_eq_true q)
      · rw [if_neg q]; exact ⟨fun z h => .inl h, fun z h => h⟩
  intro x hx
  rcases mem_plc.mp hx with rfl | hx
  · rw [lockR_top hv]; exact ⟨fun z h => .inl h, fun z h => h⟩
  · obtain ⟨r, hr, rfl⟩ := List.mem_map.mp hx
    exact key rs.length (Nat.le_refl _) r (by rw [List.take_length]; exact hr)
def shutN (rs : List Row) : List Str := (rs.filter fun r => decide (r.pr = none)).map (·.nm)
theorem lock_shut {rs : List Row} (hv : Valid rs) {z : Str} (hz : z ∈ names rs) (h : lockedB rs z = true) : z ∈ shutN rs := by
  obtain ⟨r, hr, rfl⟩ := List.mem_map.mp hz
  rw [lockB_row hv hr] at h
  exact List.mem_map.mpr ⟨r, List.mem_filter.mpr ⟨hr, h⟩, rfl⟩
theorem steps_shut {rs : List Row} (hv : Valid rs) {x y : Str} (hx : x ∈ plc rs) (hy : y ∈ plc rs) (h : lockR rs x = lockR rs y) : ∀ z ∈ lawSteps rs x y, z ∈ shutN rs := by
  intro z hz
  unfold lawSteps at hz
  obtain ⟨hm, hne⟩ := List.mem_filter.mp hz
  obtain ⟨x1, x2⟩ := way_lock hv x hx
  obtain ⟨y1, y2⟩ := way_lock hv y hy
  by_cases a : z ∈ wayOf rs x
  · by_cases b : z ∈ wayOf rs y
    · simp [a, b] at hne
    · rcases x1 z a with k | k
      · exact absurd (y2 z (by rw [← h]; exact k)) b
      · exact lock_shut hv ((wayOf_nd hv x).2 z a) k
  · have b : z ∈ wayOf rs y := (List.mem_append.mp hm).resolve_left a
    rcases y1 z b with k | k
    · exact absurd (x2 z (by rw [h]; exact k)) a
    · exact lock_shut hv ((wayOf_nd hv y).2 z b) k
theorem get_eq' (o : Option Bool) (b : Bool) : (!decide ((o.map V.bl).getD (.bl b) = V.bl b)) = decide (o = some (!b)) := by
  rw [get_eq, Bool.not_not]
theorem wlen {rs : List Row} (hv : Valid rs) (hl : rs.length ≤ 45) (x y : Str) (i : Nat) : ((lawSteps rs x y).take i).length ≤ 100 := by
  have lx := way_len (rs := rs) (z := x)
  have ly := way_len (rs := rs) (z := y)
  rw [List.length_take]
  refine Nat.le_trans (Nat.min_le_right _ _) ?_
  unfold lawSteps
  refine Nat.le_trans (List.length_filter_le _ _) ?_
  rw [List.length_append]; omega
theorem sqT_same {K : PySem.W.Frag} {H H' : Hp} {a : Addr} {xs : List V} (h : SqT K H a xs) (s : Same H H') : SqT K H' a xs := by
  rcases h with (h | ⟨o, h⟩) | h
  · exact .inl (.inl (s _ _ h))
  · exact .inl (.inr ⟨o, s _ _ h⟩)
  · exact .inr h
def spLBarred (K : PySem.W.Frag) : Sp := fun vs H Q _ => ∃ (p wd pr : Addr) (rs : List Row) (es : Wsh) (d : Option Bool) (x y : Str), vs = [.ref p, .ref wd, dfV d, .ref pr] ∧ RowsL H p rs ∧ Valid rs ∧ rs.length ≤ 45 ∧ H wd = some (.dK (kvE es)) ∧ EndsOk rs es ∧ es.length ≤ 100 ∧ SqT K H pr [.str x, .str y] ∧ BarW rs es d x y ∧ ∀ H', Same H H' → Q (.bl true) H'
def spLBarRight (K : PySem.W.Frag) : Sp := fun vs H Q _ => ∃ (p wd pr : Addr) (rs : List Row) (es : Wsh) (d : Option Bool) (x y : Str), vs = [.ref p, .ref wd, dfV d, .ref pr] ∧ RowsL H p rs ∧ Valid rs ∧ rs.length ≤ 45 ∧ H wd = some (.dK (kvE es)) ∧ EndsOk rs es ∧ es.length ≤ 100 ∧ SqT K H pr [.str ("barred" : Str), .str x, .str y] ∧ BarW rs es d x y ∧ ∀ H', Same H H' → Q (.bl true) H'
section
variable {P : Program} {w : World} {K : PySem.W.Frag} {mg : Str → Option Value} {base : Heap} {C CB : Addr}
abbrev pBr : List Str := ["_law_rows_here", "_law_wish_here", "_law_default_here", "_law_pair"]
abbrev nBr : List Str := ["_law_rows_here", "_law_wish_here", "_law_default_here", "_law_pair", "_law_pins_here", "_law_one", "_law_other", "_law_shut", "_law_row", "_law_name_here"]
theorem sc_Lba : FnScope nBr pBr (defScope s_L_is_barred) := ⟨rfl, rfl, rfl, by decide +kernel, rfl, by decide +kernel, by decide +kernel⟩
theorem ok_Lbarred (D : DefAt K mg "_law_is_barred" s_L_is_barred pBr) (hA : mg "all" = none) (Dp : DefAt K mg "_law_pins" s_L_pins pLp) (Gp : FnOk P w K mg base CX0 3 Dp.f Dp.fd pLp spLPins) (Dw : DefAt K mg "_law_way_steps" s_L_way_steps pLs) (Gw : FnOk P w K mg base CX0 3 Dw.f Dw.fd pLs spLSteps) : FnOk P w K mg base CX0 4 D.f D.fd pBr (spLBarred K) := by
  refine D.F.ok sc_Lba (fun vs H Q E h => ?_) (fun cdv A outer s H vs Q E hr h => ?_)
  · obtain ⟨p, wd, pr, rs, es, d, x, y, rfl, _⟩ := h
    rfl
  · obtain ⟨p, wd, pr, rs, es, d, x, y, rfl, hL, hv, hl, hd, hok, hle, hpr, hbar, hq⟩ := h
    have hu := hu_of hr
    have h64 := hr.units
    refine ⟨_, pss_cons (ps_if (PW.pt (pw_and (pt_cmpR op_notN (pv 2) pe_non (nomark _)) (pw_and1 (pt_cmpR op_ne (pe_dget2 hu (pv 1) pe_str (pv 2) (by constructor <;> intros <;> rfl)) (pv 2) (nomark _))))) (pss_one (ps_ret (pe_cmpR (op_eqD h64) (pv 3) (pe_tup (pa_cons pe_str (pa_cons pe_str pa_nil))) (nomark _)))) pss_nil)
      (pss_cons (ps_asg (pe_tup (pa_cons (pe_call Gp hr rfl Dp.g Dp.F.kp Dp.b .nil pass0 (pa_cons (pv 1) (pa_cons (pv 2) pa_nil))) (pa_cons (pv 3) pa_nil))) (pg_tup rfl (pgs_cons (pg_name (i := 4) sc_Lba.nd rfl (.inl rfl)) (pgs_cons (pg_tup rfl (pgs_cons (pg_name (i := 5) sc_Lba.nd rfl (.inl rfl)) (pgs_cons (pg_name (i := 6) sc_Lba.nd rfl (.inl rfl)) pgs_nil))) pgs_nil))))
      (pss_cons (ps_if (PW.pt (pw_or (pt_cmp (pc_dnotin hu (pv 5) (pv 4))) (pw_or (pt_cmp (pc_dnotin hu (pv 6) (pv 4))) (pw_or1 (pt_cmpR op_eq (pe_dget hu (pv 4) (pv 5) (fun _ _ => rfl)) (pe_dget hu (pv 4) (pv 6) (fun _ _ => rfl)) (nomark _)))))) (pss_one (ps_ret pe_bl)) pss_nil)
      (pss_cons (ps_set (i := 7) sc_Lba.nd rfl (.inr rfl) (pe_lc (own := [("_law_row", 8)]) (g := gName 8) (tt := tTest (tOp (fun x y H Q => y = .non ∧ Q (.bl (decide (x = .non))) H) (tOp (rIxT K) (tVar 8) (tC (.int 3))) (tC .non))) (te := tOp (rIxT K) (tVar 8) (tC (.int 0))) rfl sc_Lba.nd (pi_list (pv 0)) (blkOk_by (N := nBr) (sc := defScope s_L_is_barred) (by decide +kernel))
          (fun _ _ _ _ _ => pg_name (i := 8) sc_Lba.nd rfl (Or.inl rfl)) (fun _ _ _ _ _ => by exact pts_one (pt_cmpR op_isN (pe_ix ix_tup (pv 8) pe_int (fun _ _ => rfl)) pe_non (nomark _))) (fun _ _ _ _ _ => by exact pe_ix ix_tup (pv 8) pe_int (fun _ _ => rfl))))
      (pss_one (ps_ret (pe_callB (cr_all rfl) (by rfl) hA (by decide +kernel) (pa_cons (pe_lc (own := [("_law_name_here", 9)]) (g := gName 9) (tt := tYes) (te := tOp (rIn K false) (tVar 9) (tVar 7)) rfl sc_Lba.nd (pi_list (pe_call Gw hr rfl Dw.g Dw.F.kp Dw.b .nil pass0 (pa_cons (pv 0) (pa_cons (pv 5) (pa_cons (pv 6) pa_nil))))) (blkOk_by (N := nBr) (sc := defScope s_L_is_barred) (by decide +kernel))
          (fun _ _ _ _ _ => pg_name (i := 9) sc_Lba.nd rfl (Or.inl rfl)) (fun _ _ _ _ _ => pts_nil) (fun _ _ _ _ _ => by exact pe_cmpR op_in_seq (pv 9) (pv 7) (by rfl))) pa_nil))))))), ?_⟩
    have dgw : DGet H wd (.str ("top" : Str)) ((endO es "top").map V.bl) := .inl ⟨_, .inr ("top" : Str), .inl hd, rfl, by rw [kvE_val]⟩
    rcases hbar with ⟨rfl, rfl, b, hb, rfl⟩ | ⟨hno, hx, hy, hlk⟩
    · rw [hb] at dgw
      refine ⟨_, rfl, rfl, _, rfl, iteT' (by rfl) ⟨_, rfl, wd, rfl, .inl ⟨_, .inl hd⟩, _, rfl, _, dgw, _, rfl, rfl, _, rfl, iteT' (by cases b <;> rfl) ?_⟩⟩
      refine ⟨_, rfl, (by show 2 ≤ sizeLine; decide), fun q hq' => ?_⟩
      have s1 : Same H (upd H q (.tup [V.str ("top" : Str), V.str ("top" : Str)])) := Same.new hq'
      refine ⟨.tuple [.str ("top" : Str), .str ("top" : Str)], .tuple [.str ("top" : Str), .str ("top" : Str)], .tup (sqT_same hpr s1) (.cons (.str _) (.cons (.str _) .nil)), .tup (sqT upd_same) (.cons (.str _) (.cons (.str _) .nil)), (by decide +kernel), (by decide +kernel), ?_⟩
      rw [show PyData.eqv (.tuple [.str ("top" : Str), .str ("top" : Str)]) (.tuple [.str ("top" : Str), .str ("top" : Str)]) = true by decide +kernel]
      exact hq _ s1
    have hok2 := topE_ok hok (by omega) d
    have hx1 := endO_mem hok2.nd hx
    have hy1 := endO_mem hok2.nd hy
    have hxp := hok2.inp _ hx
    have hyp := hok2.inp _ hy
    have nb : ∀ b, d = some b → endO es "top" ≠ some (!b) := fun b hd' e => hno _ e (by rw [hd', Bool.not_not])
    generalize htp : topE d es = es2 at hx1 hy1 hxp hyp hok2
    obtain ⟨dd, hdd⟩ : ∃ dd, dd = d := ⟨d, rfl⟩
    cases d
    case' none => refine ⟨_, rfl, rfl, _, rfl, iteF' (by rfl) (iteF ?_)⟩
    case' some b0 =>
      have n0 := nb b0 rfl
      refine ⟨_, rfl, rfl, _, rfl, iteT' (by rfl) ⟨_, rfl, wd, rfl, .inl ⟨_, .inl hd⟩, _, rfl, _, dgw, _, rfl, get_flat _ _ _, _, rfl, iteF' (by show (!decide ((Option.map V.bl (endO es "top")).getD (V.bl b0) = V.bl b0)) = false; rw [get_eq']; simpa using n0) ?_⟩⟩
    all_goals
      refine ⟨_, rfl, _, rfl, wd, _, es, rfl, hd, by omega, fun pd H1 hpd s1 e1 => ⟨_, rfl, (by show 2 ≤ sizeLine; decide), fun tq htq => ?_⟩⟩
      rw [htp] at e1
      have s2 : Same H1 (upd H1 tq (.tup [.ref pd, .ref pr])) := Same.new htq
      have S2 := s1.trans s2
      refine ⟨tq, _, rfl, sqT upd_same, rfl, _, _, rfl, _, _, rfl, pr, _, rfl, sqT_same hpr S2, rfl, _, _, rfl, _, _, rfl, rfl, rfl, ?_⟩
      have e2 := s2 _ _ e1
      generalize upd H1 tq (.tup [V.ref pd, V.ref pr]) = H2 at s2 S2 e2
      have dgx : DGet H2 pd (.str x) (some (.bl true)) := .inl ⟨_, .inr x, .inl e2, rfl, by rw [kvE_val, hx1]; rfl⟩
      have dgy : DGet H2 pd (.str y) (some (.bl false)) := .inl ⟨_, .inr y, .inl e2, rfl, by rw [kvE_val, hy1]; rfl⟩
      refine ⟨_, rfl, _, rfl, pd, _, rfl, dgx, _, rfl, iteF' (by rfl) ⟨_, rfl, _, rfl, pd, _, rfl, dgy, _, rfl, iteF' (by rfl) ?_⟩⟩
      refine ⟨_, rfl, _, rfl, pd, .bl true, rfl, dgx, _, rfl, _, rfl, pd, .bl false, rfl, dgy, rfl, _, rfl, iteF' (by rfl) ?_⟩
      have L2 := hL.same S2
      obtain ⟨as, hp, hrows⟩ := id L2.ex
      refine ⟨_, rfl, p, rfl, ⟨_, SqL.of hp⟩, fun sh hsh => ?_⟩
      refine lc_list (K := K) (a := p) (xs := as.map V.ref) (fun i H' => Same H2 H' ∧ H' sh = some (.lst ((((rs.take i).filter fun r => decide (r.pr = none)).map (·.nm)).map V.str))) ⟨Same.new hsh, upd_same⟩ (fun i H' _ m => SqL.of (m.1 _ _ hp)) ?_ ?_
      · rintro i v H3 hv3 ⟨s3, e3⟩
        obtain ⟨ra, r, rfl, hra, hr', e0⟩ := rows_at hrows hv3
        have lt : (((rs.take i).filter fun r => decide (r.pr = none)).map (·.nm)).length ≤ 100 := by
          rw [List.length_map]
          refine Nat.le_trans (List.length_filter_le _ _) ?_
          rw [List.length_take]; omega
        have ec : decide (prV r.pr = V.non) = decide (r.pr = none) := by cases r.pr <;> simp [prV]
        refine ⟨rfl, _, rfl, ra, _, _, _, rfl, rfl, sqT (s3 _ _ e0), atI3 _ _ _ _, rfl, _, rfl, ?_⟩
        rw [ec, filt_moreL hr', List.map_append, List.map_append]
        refine ite2 (fun hc => ?_) (fun hc => ?_)
        · rw [if_pos hc]
          refine ⟨_, rfl, ra, _, _, _, rfl, rfl, sqT (s3 _ _ e0), atI0 _ _ _ _, _, e3, small1000 (by rw [List.length_map]; omega), fun c o eb => ?_, by rw [upd_same]; rfl⟩
          rw [upd_ne (ne_of_none eb hsh)]; exact s3 _ _ eb
        · rw [if_neg hc]
          exact ⟨s3, by rw [List.map_nil, List.map_nil, List.append_nil]; exact e3⟩
      rintro H3 ⟨s3, e3⟩
      rw [List.length_map, hrows.len, List.take_length] at e3
      have e3 : H3 sh = some (.lst ((shutN rs).map V.str)) := e3
      refine ⟨_, rfl, _, rfl, _, rfl, p, x, y, rs, rfl, L2.same s3, hv, by omega, hxp, hyp, fun G H6 hG s6 e6 => ?_⟩
      have e36 := s6 _ _ e3
      refine ⟨G, rfl, ⟨_, SqL.of e6⟩, fun F hF => ?_⟩
      refine lc_list (K := K) (a := G) (xs := (lawSteps rs x y).map V.str) (fun i H' => Same H6 H' ∧ H' F = some (.lst ((((lawSteps rs x y).take i).map fun z => decide (z ∈ shutN rs)).map V.bl))) ⟨Same.new hF, upd_same⟩ (fun i H' _ m => SqL.of (m.1 _ _ e6)) ?_ ?_
      · rintro i v H7 hv7 ⟨s7, e7⟩
        rw [List.getElem?_map] at hv7
        obtain ⟨z, hz, rfl⟩ := Option.map_eq_some_iff.mp hv7
        have lt := wlen hv hl x y i
        refine ⟨rfl, tYes_if ⟨_, rfl, _, rfl, sh, _, rfl, .inl (SqL.of (s7 _ _ e36)), rfl, flat_strs _, _, e7, small1000 (by rw [List.length_map, List.length_map]; omega), fun c o eb => ?_, ?_⟩⟩
        · rw [upd_ne (ne_of_none eb hF)]; exact s7 _ _ eb
        · rw [upd_same, take_more hz, List.map_append, List.map_append, if_neg Bool.false_ne_true, inV_strs]; rfl
      rintro H7 ⟨s7, e7⟩
      rw [List.length_map, List.take_length] at e7
      refine ⟨F, _, rfl, SqL.of e7, ?_⟩
      have eall : ((lawSteps rs x y).map fun z => decide (z ∈ shutN rs)).all id = true := by
        rw [List.all_map]
        exact List.all_eq_true.mpr fun z hz => decide_eq_true (steps_shut hv hxp hyp hlk z hz)
      rw [eall]
      exact hq _ (S2.trans (s3.trans (s6.trans s7)))
abbrev pBg : List Str := ["_law_rows_here", "_law_wish_here", "_law_default_here", "_law_found"]
theorem sc_Lbg : FnScope pBg pBg (defScope s_L_barred_right) := ⟨rfl, rfl, rfl, by decide +kernel, rfl, by decide +kernel, by decide +kernel⟩
theorem ok_Lbg (D : DefAt K mg "_law_barred_right" s_L_barred_right pBg) (Db : DefAt K mg "_law_is_barred" s_L_is_barred pBr) (Gb : FnOk P w K mg base CX0 4 Db.f Db.fd pBr (spLBarred K)) : FnOk P w K mg base CX0 5 D.f D.fd pBg (spLBarRight K) := by
  refine D.F.ok sc_Lbg (fun vs H Q E h => ?_) (fun cdv A outer s H vs Q E hr h => ?_)
  · obtain ⟨p, wd, pr, rs, es, d, x, y, rfl, _⟩ := h
    rfl
  · obtain ⟨p, wd, pr, rs, es, d, x, y, rfl, hL, hv, hl, hd, hok, hle, hpr, hbar, hq⟩ := h
    refine ⟨_, pss_one (ps_ret (pe_and (pe_cmpR op_eq (pe_ix ix_tup (pv 3) pe_int (fun _ _ => rfl)) pe_str (nomark _)) (pe_one (pe_call Gb hr rfl Db.g Db.F.kp Db.b .nil pass0 (pa_cons (pv 0) (pa_cons (pv 1) (pa_cons (pv 2) (pa_cons (pe_slice sl_tup (pv 3) (po_some pe_int) po_none) pa_nil)))))))), ?_⟩
    refine ⟨_, rfl, pr, _, _, V.str ("barred" : Str), rfl, rfl, hpr, rfl, rfl, _, rfl, iteT' (by rfl) ?_⟩
    refine ⟨_, rfl, _, rfl, _, rfl, _, rfl, _, rfl, pr, _, rfl, hpr, (by show ¬ (HT.sIx 3 0 (some 1) = 0 ∧ HT.sIx 3 3 none = 3); decide), fun q hq' => ?_⟩
    have s1 := Same.new (o := .tup (cutV [V.str ("barred" : Str), .str x, .str y] (some 1) none)) hq'
    exact ⟨p, wd, q, rs, es, d, x, y, rfl, hL.same s1, hv, hl, s1 _ _ hd, hok, hle, sqT (by rw [upd_same]; rfl), hbar, fun H' s => hq H' (s1.trans s)⟩
end
end Ts

set_option maxRecDepth 100000
set_option maxHeartbeats 8000000
namespace Ts
open PySem L2
open LamX (ExtN Tabs TabB)
/-- what lists there are stay lists, the rest stays -/
def LK (H H' : Hp) : Prop := ∀ b o, H b = some o → H' b = some o ∨ ((∃ xs, o = .lst xs) ∧ ∃ ys, H' b = some (.lst ys))
theorem LK.of {H H' : Hp} (s : Same H H') : LK H H' := fun b o e => .inl (s _ _ e)
theorem LK.trans {H H' H2 : Hp} (h : LK H H') (h2 : LK H' H2) : LK H H2 := fun b o e => by
  rcases h b o e with h | ⟨⟨xs, rfl⟩, ys, h⟩
  · exact h2 b o h
  · rcases h2 b _ h with k | ⟨_, zs, k⟩
    · exact .inr ⟨⟨xs, rfl⟩, ys, k⟩
    · exact .inr ⟨⟨xs, rfl⟩, zs, k⟩
theorem LK.sb {H H' : Hp} {a : Addr} {n m : Int} (st : Stm H a n) (s : SB a H H') (st' : Stm H' a m) : LK H H' := fun b o e => by
  by_cases q : b = a
  · obtain ⟨x, y, z, e1, _⟩ := st
    obtain ⟨x', y', z', e2, _⟩ := st'
    subst q
    rw [e1] at e
    exact .inr ⟨⟨_, (Option.some.inj e).symm⟩, _, e2⟩
  · exact .inl (s b o q e)
theorem LK.put {H : Hp} {a : Addr} {xs ys : List V} (e : H a = some (.lst xs)) : LK H (upd H a (.lst ys)) := fun b o eb => by
  by_cases q : b = a
  · subst q
    rw [e] at eb
    exact .inr ⟨⟨_, (Option.some.inj eb).symm⟩, _, upd_same⟩
  · exact .inl (by rw [upd_ne q]; exact eb)
theorem CellV.lk {H H' : Hp} {x : V} (h : CellV H x) (s : LK H H') : CellV H' x := by
  rcases h with h | rfl | h | h | ⟨a, xs, rfl, h⟩ | ⟨a, xs, rfl, h⟩ | ⟨a, xs, rfl, h⟩
  · exact .inl h
  · exact .inr (.inl rfl)
  · exact .inr (.inr (.inl h))
  · exact .inr (.inr (.inr (.inl h)))
  · rcases s _ _ h with k | ⟨_, ys, k⟩
    · exact .inr (.inr (.inr (.inr (.inl ⟨a, xs, rfl, k⟩))))
    · exact .inr (.inr (.inr (.inr (.inl ⟨a, ys, rfl, k⟩))))
  · rcases s _ _ h with k | ⟨⟨_, k⟩, _⟩
    · exact .inr (.inr (.inr (.inr (.inr (.inl ⟨a, xs, rfl, k⟩)))))
    · cases k
  · rcases s _ _ h with k | ⟨⟨_, k⟩, _⟩
    · exact .inr (.inr (.inr (.inr (.inr (.inr ⟨a, xs, rfl, k⟩)))))
    · cases k
def spLWish : Sp := fun vs H Q _ => ∃ (a p : Addr) (most n : Int) (rs : List Row), vs = [.ref a, .ref p, .int most] ∧ Stm H a n ∧ n ≤ 10000000 ∧ RowsL H p rs ∧ p ≠ a ∧ Valid rs ∧ rs.length ≤ 100 ∧ 0 ≤ most ∧ most ≤ 100 ∧
  ∀ (D : Addr) (es : Wsh) (H' : Hp), H D = none → D ≠ a → H' D = some (.dK (kvE es)) → EndsOk rs es → (es.length : Int) ≤ most → SB a H H' → Stm H' a (n + 1 + 2 * most) → Q (.ref D) H'
def spLDefault : Sp := fun vs H Q _ => ∃ (a : Addr) (n : Int), vs = [.ref a] ∧ Stm H a n ∧ n ≤ 10000000 ∧ ∀ (d : Option Bool) (H' : Hp), SB a H H' → Stm H' a (n + 1) → Q (dfV d) H'
section
variable {P : Program} {w : World} {K : PySem.W.Frag} {mg : Str → Option Value} {base : Heap} {C CB : Addr}
abbrev pDw : List Str := ["_law_stream_here", "_law_many"]
abbrev pSm : List Str := ["_law_stream_here", "_law_things"]
theorem sc_Ldef : FnScope ["_law_stream_here"] ["_law_stream_here"] (defScope s_L_default) := ⟨rfl, rfl, rfl, by decide +kernel, rfl, by decide +kernel, by decide +kernel⟩
theorem ok_Ldef (D : DefAt K mg "_law_default" s_L_default ["_law_stream_here"]) (Dp : DefAt K mg "_law_pick" s_L_pick pSm) (Gp : FnOk P w K mg base CX0 3 Dp.f Dp.fd pSm (spPick K)) : FnOk P w K mg base CX0 4 D.f D.fd ["_law_stream_here"] spLDefault := by
  refine D.F.ok sc_Ldef (fun vs H Q E h => ?_) (fun cdv A outer s H vs Q E hr h => ?_)
  · obtain ⟨a, n, rfl, _⟩ := h
    rfl
  · obtain ⟨a, n, rfl, hst, hn, hq⟩ := h
    refine ⟨_, pss_one (ps_ret (pe_call Gp hr rfl Dp.g Dp.F.kp Dp.b .nil pass0 (pa_cons (pv 0) (pa_cons (pe_lst (pa_cons pe_non (pa_cons pe_non (pa_cons pe_bl (pa_cons pe_bl pa_nil))))) pa_nil)))), ?_⟩
    refine ⟨_, rfl, (by show 4 ≤ sizeLine; decide), fun l hl => ?_⟩
    have s1 : Same H (upd H l (.lst [V.non, V.non, V.bl true, V.bl false])) := Same.new hl
    refine .inl ⟨a, l, n, _, rfl, hst.same s1, by omega, (hst.ne hl).symm, SqL.of upd_same, (by decide), (by decide), fun v H' hv st sb _ => ?_⟩
    simp only [List.mem_cons, List.not_mem_nil, or_false] at hv
    have fin : ∀ d : Option Bool, Q (dfV d) H' := fun d => hq d H' ((SB.of s1).trans sb) st
    rcases hv with rfl | rfl | rfl | rfl
    · exact fin none
    · exact fin none
    · exact fin (some true)
    · exact fin (some false)
abbrev pWi : List Str := ["_law_stream_here", "_law_rows_here", "_law_most"]
abbrev nWi : List Str := ["_law_stream_here", "_law_rows_here", "_law_most", "_law_places", "_law_found", "_law_k", "_law_row"]
theorem sc_Lwish : FnScope nWi pWi (defScope s_L_wish) := ⟨rfl, rfl, rfl, by decide +kernel, rfl, by decide +kernel, by decide +kernel⟩
theorem ok_Lwish (D : DefAt K mg "_law_wish" s_L_wish pWi) (B : TxB mg) (Dp : DefAt K mg "_law_pick" s_L_pick pSm) (Gp : FnOk P w K mg base CX0 3 Dp.f Dp.fd pSm (spPick K)) (Dd : DefAt K mg "_law_draw" s_L_draw pDw) (Gd : FnOk P w K mg base CX0 2 Dd.f Dd.fd pDw spDraw) : FnOk P w K mg base CX0 4 D.f D.fd pWi spLWish := by
  refine D.F.ok sc_Lwish (fun vs H Q E h => ?_) (fun cdv A outer s H vs Q E hr h => ?_)
  · obtain ⟨a, p, most, n, rs, rfl, _⟩ := h
    rfl
  · obtain ⟨a, p, most, n, rs, rfl, hst, hn, hL, npa, hv, hl, m0, m1, hq⟩ := h
    have hu := hu_of hr
    have r2 : Room 2 _ := hr.mono (by decide)
    refine ⟨_, pss_cons (ps_par (i := 3) (j := 4) rfl sc_Lwish.nd rfl rfl (by decide) rfl rfl (pa_cons (pe_op op_cat (pe_lst (pa_cons pe_str pa_nil)) (pe_lc (own := [("_law_row", 6)]) (g := gName 6) (tt := tYes) (te := tOp (rIxT K) (tVar 6) (tC (.int 0))) rfl sc_Lwish.nd (pi_list (pv 1)) (blkOk_by (N := nWi) (sc := defScope s_L_wish) (by decide +kernel))
          (fun _ _ _ _ _ => pg_name (i := 6) sc_Lwish.nd rfl (Or.inl rfl)) (fun _ _ _ _ _ => pts_nil) (fun _ _ _ _ _ => by exact pe_ix ix_tup (pv 6) pe_int (fun _ _ => rfl)))) (pa_cons pe_dnewK pa_nil)) (by rfl))
      (pss_cons (ps_for PassesOwn.never rfl (pi_range1 (by rfl) B.range (pa_cons (pe_call Gd r2 rfl Dd.g Dd.F.kp Dd.b .nil pass0 (pa_cons (pv 0) (pa_cons (pe_op op_add (pv 2) pe_int) pa_nil))) pa_nil)) (pg_name (i := 5) sc_Lwish.nd rfl (Or.inl rfl))
        (pss_one (ps_dput hu (pv 4) (pe_call Gp hr rfl Dp.g Dp.F.kp Dp.b .nil pass0 (pa_cons (pv 0) (pa_cons (pv 3) pa_nil))) (pe_cmpR op_eq (pe_call Gd r2 rfl Dd.g Dd.F.kp Dd.b .nil pass0 (pa_cons (pv 0) (pa_cons pe_int pa_nil))) pe_int (nomark _)) rfl)))
      (pss_one (ps_ret (pv 4)))), ?_⟩
    obtain ⟨as, hp, hrows⟩ := id hL.ex
    refine ⟨(by show 1 ≤ sizeLine; decide), fun l1 hl1 => ?_⟩
    have s1 : Same H (upd H l1 (.lst [V.str ("top" : Str)])) := Same.new hl1
    have e1 : (upd H l1 (.lst [V.str ("top" : Str)])) l1 = some (.lst [V.str ("top" : Str)]) := upd_same
    generalize upd H l1 (.lst [V.str ("top" : Str)]) = H1 at s1 e1
    have hp1 := s1 _ _ hp
    have r1 := hrows.same s1
    refine ⟨_, rfl, p, rfl, ⟨_, SqL.of hp1⟩, fun D2 hD2 => ?_⟩
    refine lc_list (K := K) (a := p) (xs := as.map V.ref) (fun i H' => Same H1 H' ∧ H' D2 = some (.lst ((names (rs.take i)).map V.str))) ⟨Same.new hD2, upd_same⟩ (fun i H' _ m => SqL.of (m.1 _ _ hp1)) ?_ ?_
    · rintro i x H3 hx ⟨s3, e3⟩
      obtain ⟨ra, r, rfl, hra, hr', e0⟩ := rows_at r1 hx
      refine ⟨rfl, tYes_if ⟨_, rfl, ra, _, _, _, rfl, rfl, sqT (s3 _ _ e0), atI0 _ _ _ _, _, e3, small1000 (by unfold names; rw [List.length_map, List.length_map, List.length_take]; omega), fun b o eb => ?_, ?_⟩⟩
      · rw [upd_ne (fun y => by rw [y, hD2] at eb; cases eb)]
        exact s3 _ _ eb
      · unfold names
        rw [upd_same, take_more hr', List.map_append, List.map_append]; rfl
    rintro H3 ⟨s3, e3⟩
    rw [List.length_map, r1.len, List.take_length] at e3
    refine ⟨l1, D2, _, _, rfl, rfl, s3 _ _ e1, e3, szl (by unfold names; rw [List.length_map, List.length_map]; show 1 + _ ≤ 1000; omega), fun pl hpl => ?_⟩
    have s4 : Same H3 (upd H3 pl (.lst ([V.str ("top" : Str)] ++ (names rs).map V.str))) := Same.new hpl
    have e4 : (upd H3 pl (.lst ([V.str ("top" : Str)] ++ (names rs).map V.str))) pl = some (.lst ((plc rs).map V.str)) := upd_same
    generalize upd H3 pl (.lst ([V.str ("top" : Str)] ++ (names rs).map V.str)) = H4 at s4 e4
    have s14 := s1.trans (s3.trans s4)
    have pla : pl ≠ a := (hst.same (s1.trans s3)).ne hpl |>.symm
    refine fun D hD => ⟨_, _, rfl, ?_⟩
    have s5 : Same H4 (upd H4 D (.dK [])) := Same.new hD
    have e5 : (upd H4 D (.dK [])) D = some (.dK (kvE [])) := upd_same
    have HD : H D = none := s14.free hD
    have Da : D ≠ a := ((hst.same s14).ne hD).symm
    have plD : pl ≠ D := ne_of_none e4 hD
    generalize upd H4 D (.dK []) = H5 at s5 e5
    have S5 := s14.trans s5
    have f4 := s5 _ _ e4
    have st5 := hst.same S5
    have pl101 : (plc rs).length ≤ 101 := by unfold plc names; rw [List.length_cons, List.length_map]; omega
    have pl1 : 1 ≤ (plc rs).length := by unfold plc; rw [List.length_cons]; omega
    clear s1 e1 hp1 r1 hD2 s3 e3 s4 hpl hl1 s14 s5 hD
    refine ⟨_, rfl, _, rfl, _, _, rfl, rfl, a, most + 1, n, rfl, st5, by omega, by omega, by omega, fun k H6 k0 k1 st6 q6 => ?_⟩
    have sb6 : SB a H5 H6 := sb_eq q6
    refine ⟨k, rfl, by omega, by omega, ?_⟩
    refine for_range (lo := 0) (n := k.toNat) (fun i σ H' => ∃ (v5 : Option V) (es : Wsh), σ = [some (.ref a), some (.ref p), some (.int most), some (.ref pl), some (.ref D), v5, none] ∧ (∀ b o, b ≠ a → b ≠ D → H5 b = some o → H' b = some o) ∧ H' D = some (.dK (kvE es)) ∧ EndsOk rs es ∧ es.length ≤ i ∧ Stm H' a (n + 1 + 2 * (i : Int))) ⟨none, [], rfl, fun b o h1 h2 e => sb6 b o h1 e, sb6 _ _ Da e5, ⟨List.nodup_nil, (fun e he => by cases he), Nat.zero_le _⟩, Nat.le_refl _, by simpa using st6⟩ ?_ ?_
    · rintro i σ H7 hi ⟨v5, es, rfl, k7, e7, ok7, l7, st7⟩
      have hi100 : i < 100 := by omega
      refine ⟨_, rfl, a, 2, _, rfl, st7, by omega, by decide, by decide, fun r H8 r0 r1 st8 q8 => ⟨rfl, ?_⟩⟩
      have sb8 : SB a H7 H8 := sb_eq q8
      have p8 : H8 pl = some (.lst ((plc rs).map V.str)) := sb8 _ _ pla (k7 _ _ pla plD f4)
      refine ⟨_, rfl, _, rfl, _, rfl, .inl ⟨a, pl, _, _, rfl, st8, by omega, pla, SqL.of p8, by rw [List.length_map]; exact pl1, by rw [List.length_map]; omega, fun v H9 hv' st9 sb9 _ => ?_⟩⟩
      obtain ⟨z, hz, rfl⟩ := List.mem_map.mp hv'
      have e9 : H9 D = some (.dK (kvE es)) := sb9 _ _ Da (sb8 _ _ Da e7)
      refine ⟨D, _, rfl, DPut.k (k := Sum.inr z) e9 (by rw [kvE_len]; exact small1000 (by omega)), ?_⟩
      have ne : a ≠ D := fun q => Da q.symm
      refine ⟨_, putE es z (decide (V.int r = V.int 0)), rfl, fun b o h1 h2 e => ?_, ?_, putE_ok ok7 (by omega) hz _, by have := putE_len es z (decide (V.int r = V.int 0)); omega, ?_⟩
      · rw [upd_ne h2]; exact sb9 _ _ h1 (sb8 _ _ h1 (k7 _ _ h1 h2 e))
      · rw [upd_same, kvE_put]
      · obtain ⟨x, y, z', e, q⟩ := st9
        exact Stm.mono ⟨x, y, z', by rw [upd_ne ne]; exact e, q⟩ (by push_cast; omega)
    · rintro σ H7 ⟨v5, es, rfl, k7, e7, ok7, l7, st7⟩
      refine ⟨_, rfl, hq D es H7 HD Da e7 ok7 (by omega) (fun b o h1 e => ?_) (st7.mono (by omega))⟩
      exact k7 b o h1 (ne_of_none e HD) (S5 _ _ e)
end
end Ts

set_option maxRecDepth 100000
set_option maxHeartbeats 4000000
namespace Ts
open PySem PySem.Spec PyProof.Rows L2
/-! ### an own error class that takes nothing -/
abbrev veBases : List Value := [.type "ValueError", .type "Exception", .type "BaseException", .type "object"]
structure Err0 (K : PySem.W.Frag) (mg : Str → Option Value) (E : Addr) (nm : Str) : Prop where
  q : PySem.W.excIn K E veBases "ValueError.__new__" = true
  k : PySem.W.keepIn K (.ref E) = true
  b : PySem.W.subIn K (.ref E) (.type "BaseException") = some true
  t : PySem.W.typeIn K (.ref E) = some (.type "type")
  g : mg nm = some (.ref E)
  te : PySem.W.exmOne K (.ref E) (.ref E) = some true
theorem pmk_err0 {X : Cx} {E : Addr} {x : Str} {p pos : Pos} (T : Err0 X.K X.mg E x) (hg : Gl X x) (hdb : (x == ("__debug__" : Str)) = false := by decide) :
    PMk X (.Call (.Name x p) [] [] pos) (fun _ H Q => Q (.ref E) none H) := by
  intro pins s σ H Q I h
  refine wpAny_Call_Name_kw (ld_glob I hg T.g ?_ hdb)
  refine PySem.W.callWith_K0 I.kIn T.k ?_
  show wpAny _ _ (call (.ref E) []) _ _ _
  obtain ⟨_, _, _, _, _, _, _, _, _, _, _, _, _, _, _, _, _, cl, mr, nin, tl⟩ := exc_obj I.kIn T.q
  refine wpAny_call_exc_subT PySem.F.excBase_ValueError tl cl mr nin (fun h' e made => ?_) (Nat.zero_le _)
  exact mk_of I made (raises_own T.b T.t) h (I.hok.gone made.new)
end Ts

set_option maxRecDepth 100000
set_option maxHeartbeats 4000000
namespace L2
open PySem PySem.Spec PyProof.Rows
/-! ### several clauses, each with a name: except A as e: .. except B as e: .. -/
abbrev AsClause := Value × Option Nat × (Addr → Value → Option Addr → TS)
/-- behind its suite the clause's name is gone -/
def unAs1 (i : Nat) (D : Ends) : Ends where
  nx := fun u v => D.nx (u.set i none) v
  rt := D.rt
  bk := fun u v => D.bk (u.set i none) v
  ct := fun u v => D.ct (u.set i none) v
def unAs : Option Nat → Ends → Ends
  | none, D => D
  | some i, D => unAs1 i D
def putAs : Option Nat → Addr → St → St
  | none, _, u => u
  | some i, p, u => u.set i (some (.ref p))
def wAsM (K : PySem.W.Frag) (W0 : WX) (D : Ends) : List AsClause → WX
  | [] => W0
  | q :: rest => fun cl od u v => ∃ y, PySem.W.exmOne K cl q.1 = some y ∧ (y = true → ∀ p, v p = none → q.2.2 p cl od (unAs q.2.1 D) (putAs q.2.1 p u) v) ∧ (y = false → wAsM K W0 D rest cl od u v)
inductive AsOk (X : Cx) : List ExceptHandler → List AsClause → Prop
  | nil : AsOk X [] []
  | cons {cn en : Str} {cv : Value} {k : Nat} {act : Addr → Value → Option Addr → TS} {st : Stmt} {sts : List Stmt} {p1 p2 : Pos} {more : List ExceptHandler} {l : List AsClause}
      (slot : X.N[k]? = some en) (own : X.env.kindOf en = some .local) (nm : Names X cn cv)
      (run : ∀ (p : Addr) (ob : Obj) (cl : Value) (od : Option Addr) (pn : List (Addr × Obj)), Zc cl od ob → (∃ fs, ob.data = .fields fs) → PSs (X.suite p ((p, ob) :: pn)) (st :: sts) (act p cl od))
      (rest : AsOk X more l) : AsOk X (.ExceptHandler (some (.Name cn p1)) (some en) (st :: sts) p2 :: more) ((cv, some k, act) :: l)
  | bare {cn : Str} {cv : Value} {act : Addr → Value → Option Addr → TS} {st : Stmt} {sts : List Stmt} {p1 p2 : Pos} {more : List ExceptHandler} {l : List AsClause} (nm : Names X cn cv)
      (run : ∀ (p : Addr) (ob : Obj) (cl : Value) (od : Option Addr) (pn : List (Addr × Obj)), Zc cl od ob → (∃ fs, ob.data = .fields fs) → PSs (X.suite p ((p, ob) :: pn)) (st :: sts) (act p cl od))
      (rest : AsOk X more l) : AsOk X (.ExceptHandler (some (.Name cn p1)) none (st :: sts) p2 :: more) ((cv, none, act) :: l)
section
variable {X : Cx} {ss : List Stmt} {hd : ExceptHandler} {hs : List ExceptHandler} {cls : List AsClause} {pos : Pos} {tb : WX → TS} {W0 : WX}
theorem ps_try_asm (st1 : X.stack = X.env :: X.outer) (fr1 : X.env.frame = some X.env.locals) (nd : X.N.Nodup) (take : Takes X W0)
    (try_ : ∀ (V : WX) (ps : List (Addr × Obj)) (ex : Value → Shared → Prop), Takes (X.tr ps ex) V → PassesOwn (model X.prog X.w) X.A X.env ex → PSs (X.tr ps ex) ss (tb V))
    (all : AsOk X (hd :: hs) cls) : PS X (.Try ss (hd :: hs) [] [] pos) (fun D u v => tb (wAsM X.K W0 D cls) D u v) := by
  refine ⟨fun pins s0 u0 v0 D inv want => ?_⟩
  have rdy := inv.ok
  have frames_ : X.A.frames = some (X.env :: X.outer) := by rw [rdy.frames, st1]
  refine wpAny_Try_except ?_
  refine wpAny_mono ((try_ (wAsM X.K W0 D cls) (X.pn ++ pins)
      (fun er z1 => wpAny (model X.prog X.w) X.A (noteFrame er X.env)
        (fun _ z2 => wpAny (model X.prog X.w) X.A (setFlight er none)
          (fun _ z3 => wpAny (model X.prog X.w) X.A (handleBy er X.env (hd :: hs)) (SP X pins D) X.xe z3) X.xe z2) X.xe z1)
      (fun er z1 caught => ?_) PassesOwn.looking).run [] s0 u0 v0 D (inv.toTry _) want) (fun fl z1 went => ?_) (fun _ _ z => z)
  · -- an error of the body
    obtain ⟨p, B, sX, pinsX, u1, v1, cl, od, rfl, invT, nb, grew, sky0, np, os0, ag0, wish⟩ := caught
    have invJ : Inv X pins u1 v1 sX := invT.ofTry rdy
    have sky1 : Sky B (X.env :: X.outer) p (Zc cl od) X.env.locals z1.heap := by
      rw [← st1]
      exact sky0
    show wpAny (model X.prog X.w) X.A (noteFrame (.ref p) X.env) _ _ _
    refine Sky.land Zc.steady frames_ fr1 sky1 fun g3 lands3 grew3 => ?_
    have inv3 : Inv X pins u1 v1 { z1 with heap := g3 } := invJ.landed nb lands3.1 (grew.trans grew3) os0 ag0
    obtain ⟨ob3, fs3, get3, zc3, dat3⟩ := lands3.there
    have away : ∀ {h : Heap} {o : Obj} {w : Array Value}, h.FunFrames B (X.env :: X.outer) → h.get? p = some o → o.data = .fields w → p ∉ frs (X.env :: X.outer) := by
      intro h o w ff ge da mem
      obtain ⟨_, o1, ge1, no1⟩ := ff.mem mem
      rw [ge] at ge1
      cases ge1
      exact no1 _ da
    have offAll := away lands3.2.2.1 get3 dat3
    have offL : p ≠ X.env.locals := by
      intro same
      exact offAll (List.mem_filterMap.mpr ⟨X.env, List.mem_cons_self, by rw [fr1, same]⟩)
    have offF : p ∉ X.fs := by
      intro mem
      obtain ⟨en, hen, qen⟩ := List.mem_filterMap.mp mem
      exact offAll (List.mem_filterMap.mpr ⟨en, List.mem_cons_of_mem _ hen, qen⟩)
    have invS := inv3.suite get3 dat3 np offL offF
    have each : ∀ {hh : List ExceptHandler} {ll : List AsClause}, AsOk X hh ll → wAsM X.K W0 D ll cl od u1 v1 → wpAny (model X.prog X.w) X.A (handleBy (.ref p) X.env hh) (SP X pins D) X.xe { z1 with heap := g3 } := by
      intro hh ll ok
      induction ok with
      | nil =>
        intro last
        refine wpAny_handleBy_nil ?_
        obtain ⟨_, _, _, ob, fs, T, oT, tk1, g1, g2, g4, g5, _⟩ := id lands3
        unfold PySem.passOn
        refine wpAny_bind (wpAny_field g1 g4 g5 ?_)
        rw [if_neg (show ¬ ((Value.ref T == Value.none) = true) by simp)]
        have done_ : wpAny (model X.prog X.w) X.A (setFlight (.ref p) X.env.frame)
            (fun _ z4 => wpAny (model X.prog X.w) X.A (throw (.ref p) : Sem Flow) (SP X pins D) X.xe z4) X.xe { z1 with heap := g3 } := by
          rw [fr1]
          refine HandSPX.setFlight_upZ lands3 fun g6 land6 grew6 => wpAny_throw (take _ _ ?_)
          exact ⟨p, B, sX, pins, u1, v1, cl, od, rfl, invJ, nb, (grew.trans grew3).trans grew6, .inr (.inr (by rw [st1]; exact land6)), np, os0, ag0, last⟩
        first
          | exact wpAny_bind (wpAny_pure (wpAny_bind done_))
          | exact wpAny_bind done_
      | @cons cn en cv k act st sts p1 p2 more l slot own nm run rest ih =>
        intro wants
        obtain ⟨y, is_, yes, no⟩ := wants
        refine wpAny_handleBy_cons (codeAny_handlers_test ?_) (by intro q; cases q)
        have looks : PySem.W.Looks (model X.prog X.w) g3 (typeOf (.ref p)) cl := fun A Q E z keep q => wpAny_typeOf_ref (keep _ _ get3) (by rw [zc3.1]; exact q)
        have meets_ := PySem.W.exm_one (M := model X.prog X.w) (inv3.kIn) looks is_
        have ask : ∀ {Q E : Value → Shared → Prop}, Q cv { z1 with heap := g3 } → wpAny (model X.prog X.w) (X.A.mark (some (.ref p))) (eval (.Name cn p1) X.env) Q E { z1 with heap := g3 } := by
          intro Q E q
          obtain ⟨isG, dbg, atM | ⟨atM, atB, notN⟩⟩ := nm
          · exact ld_glob (X := X.suite p ((p, ob3) :: (X.pn ++ pins))) invS isG atM q dbg
          · exact ld_blt (X := X.suite p ((p, ob3) :: (X.pn ++ pins))) invS isG atM atB q notN dbg
        refine ask (meets_.here ?_)
        cases y with
        | false =>
          show wpAny _ X.A (handleBy (.ref p) X.env more) _ _ _
          exact ih (no rfl)
        | true =>
          refine codeAny_handlers_suite_as ?_
          refine HandSPX.lands_againZ lands3 fun g4 lands4 grew4 => ?_
          have inv4 : Inv X pins u1 v1 { z1 with heap := g4 } := invJ.landed nb lands4.1 ((grew.trans grew3).trans grew4) os0 ag0
          obtain ⟨ob4, fs4, get4, zc4, dat4⟩ := lands4.there
          have invS4 := inv4.suite get4 dat4 np offL offF
          refine store_ok (X := X.suite p ((p, ob4) :: (X.pn ++ pins))) (v := .ref p) invS4 nd slot (.inl own) rfl (fun z5 inv5 => ?_) (.inr own)
          refine wpAny_mono ((run p ob4 cl od (X.pn ++ pins) zc4 ⟨_, dat4⟩).run [] z5 _ v1 _ inv5 (yes rfl p np)) (fun fl z6 went => ?_) (fun _ _ z => False.elim z)
          have gone : ∀ {u6 : St} {v6 : Hp} {Q : Shared → Prop}, Inv (X.suite p ((p, ob4) :: (X.pn ++ pins))) [] u6 v6 z6 → (∀ z7, Inv X pins (u6.set k none) v6 z7 → Q z7) →
              wpAny (model X.prog X.w) X.A (do bindName X.env en .none; unbindBehindTheSuite X.env en p2) (fun _ z7 => Q z7) X.xe z6 := by
            intro u6 v6 Q i6 q6
            exact gone_ok (i6.unsuite rdy) nd slot own q6
          cases fl with
          | next =>
            obtain ⟨u6, v6, i6, q6⟩ := went
            exact gone i6 fun z7 i7 => ⟨_, _, i7, q6⟩
          | brk =>
            obtain ⟨u6, v6, i6, q6⟩ := went
            exact gone i6 fun z7 i7 => ⟨_, _, i7, q6⟩
          | cont =>
            obtain ⟨u6, v6, i6, q6⟩ := went
            exact gone i6 fun z7 i7 => ⟨_, _, i7, q6⟩
          | ret rv =>
            obtain ⟨w6, u6, v6, i6, r6, q6⟩ := went
            exact gone i6 fun z7 i7 => ⟨_, _, _, i7, r6, q6⟩
      | @bare cn cv act st sts p1 p2 more l nm run rest ih =>
        intro wants
        obtain ⟨y, is_, yes, no⟩ := wants
        refine wpAny_handleBy_cons (codeAny_handlers_test ?_) (by intro q; cases q)
        have looks : PySem.W.Looks (model X.prog X.w) g3 (typeOf (.ref p)) cl := fun A Q E z keep q => wpAny_typeOf_ref (keep _ _ get3) (by rw [zc3.1]; exact q)
        have meets_ := PySem.W.exm_one (M := model X.prog X.w) (inv3.kIn) looks is_
        have ask : ∀ {Q E : Value → Shared → Prop}, Q cv { z1 with heap := g3 } → wpAny (model X.prog X.w) (X.A.mark (some (.ref p))) (eval (.Name cn p1) X.env) Q E { z1 with heap := g3 } := by
          intro Q E q
          obtain ⟨isG, dbg, atM | ⟨atM, atB, notN⟩⟩ := nm
          · exact ld_glob (X := X.suite p ((p, ob3) :: (X.pn ++ pins))) invS isG atM q dbg
          · exact ld_blt (X := X.suite p ((p, ob3) :: (X.pn ++ pins))) invS isG atM atB q notN dbg
        refine ask (meets_.here ?_)
        cases y with
        | false =>
          show wpAny _ X.A (handleBy (.ref p) X.env more) _ _ _
          exact ih (no rfl)
        | true =>
          refine codeAny_handlers_suite ?_
          refine HandSPX.lands_againZ lands3 fun g4 lands4 grew4 => ?_
          have inv4 : Inv X pins u1 v1 { z1 with heap := g4 } := invJ.landed nb lands4.1 ((grew.trans grew3).trans grew4) os0 ag0
          obtain ⟨ob4, fs4, get4, zc4, dat4⟩ := lands4.there
          have invS4 := inv4.suite get4 dat4 np offL offF
          refine wpAny_mono ((run p ob4 cl od (X.pn ++ pins) zc4 ⟨_, dat4⟩).run [] _ _ v1 _ invS4 (yes rfl p np)) (fun fl z6 went => ?_) (fun _ _ z => False.elim z)
          cases fl with
          | next =>
            obtain ⟨u6, v6, i6, q6⟩ := went
            exact ⟨_, _, i6.unsuite rdy, q6⟩
          | brk =>
            obtain ⟨u6, v6, i6, q6⟩ := went
            exact ⟨_, _, i6.unsuite rdy, q6⟩
          | cont =>
            obtain ⟨u6, v6, i6, q6⟩ := went
            exact ⟨_, _, i6.unsuite rdy, q6⟩
          | ret rv =>
            obtain ⟨w6, u6, v6, i6, r6, q6⟩ := went
            exact ⟨_, _, _, i6.unsuite rdy, r6, q6⟩
    exact each all wish
  · cases fl with
    | next =>
      obtain ⟨u6, v6, i6, q6⟩ := went
      exact wpAny_execs_nil ⟨u6, v6, i6.ofTry rdy, q6⟩
    | brk =>
      obtain ⟨u6, v6, i6, q6⟩ := went
      exact ⟨u6, v6, i6.ofTry rdy, q6⟩
    | cont =>
      obtain ⟨u6, v6, i6, q6⟩ := went
      exact ⟨u6, v6, i6.ofTry rdy, q6⟩
    | ret rv =>
      obtain ⟨w6, u6, v6, i6, r6, q6⟩ := went
      exact ⟨w6, u6, v6, i6.ofTry rdy, r6, q6⟩
end
end L2

set_option maxRecDepth 100000
set_option maxHeartbeats 4000000
namespace Ts
open PySem L2
open LamX (ExtN Tabs TabB)
/-! ### the ends of the ways -/
def PN (S : Str → Prop) (l : List Part) : Prop := ∀ e ∈ l, S e.2
def WN (S : Str → Prop) (l : List Way3) : Prop := ∀ e ∈ l, S e.2.1 ∧ S e.2.2
theorem PN.shorter {S : Str → Prop} {l : List Part} (h : PN S l) (m : Int) : PN S (shorterL l m) := by
  match l, h with
  | [], h => exact h
  | (n, p) :: l, h =>
    intro e he
    rcases List.mem_append.mp he with he | he
    · by_cases q : m < n
      · rw [if_pos q] at he
        rw [List.mem_singleton.mp he]
        exact h (n, p) (List.mem_cons_self ..)
      · rw [if_neg q] at he; cases he
    · exact h e (List.mem_cons_of_mem _ he)
theorem PN.letp {S : Str → Prop} : ∀ {l : List Part}, PN S l → ∀ p, PN S (letL l p)
  | [], h, p => h
  | (a, x) :: l, h, p => by
    intro e he
    unfold letL at he
    rcases List.mem_append.mp he with he | he
    · by_cases q : 0 < min a p
      · rw [if_pos q] at he
        rw [List.mem_singleton.mp he]
        exact h (a, x) (List.mem_cons_self ..)
      · rw [if_neg q] at he; cases he
    · exact PN.letp (l := l) (fun e he => h e (List.mem_cons_of_mem _ he)) _ e he
theorem pairF_pn {S : Str → Prop} : ∀ (n : Nat) (o f : List Part) (w : List Way3), PN S o → PN S f → WN S w → WN S (pairF n o f w).1 ∧ PN S (pairF n o f w).2.1 ∧ PN S (pairF n o f w).2.2
  | 0, o, f, w, ho, hf, hw => ⟨hw, ho, hf⟩
  | n + 1, [], f, w, ho, hf, hw => by rw [pairF_nil1]; exact ⟨hw, ho, hf⟩
  | n + 1, e :: o, [], w, ho, hf, hw => by rw [pairF_nil2]; exact ⟨hw, ho, hf⟩
  | n + 1, (a, x) :: o, (b, y) :: f, w, ho, hf, hw => by
    have e : pairF (n + 1) ((a, x) :: o) ((b, y) :: f) w = pairF n (shorterL ((a, x) :: o) (min a b)) (shorterL ((b, y) :: f) (min a b)) (w ++ [(min a b, x, y)]) := rfl
    rw [e]
    refine pairF_pn n _ _ _ (ho.shorter _) (hf.shorter _) fun e he => ?_
    rcases List.mem_append.mp he with he | he
    · exact hw e he
    · rw [List.mem_singleton.mp he]
      exact ⟨ho (a, x) (List.mem_cons_self ..), hf (b, y) (List.mem_cons_self ..)⟩
theorem meet_pn {rs : List Row} {es : Wsh} {S : Str → Prop} (hS : ∀ z b, endO es z = some b → S z) {W : Wait} {z : Str} (h : ∀ b, PN S (W z b)) : WN S (meetP rs es W z).1 ∧ PN S (meetP rs es W z).2.1 ∧ PN S (meetP rs es W z).2.2 := by
  have he : ∀ b, PN S (endP rs es W z b) := fun b => by
    unfold endP
    by_cases q : endO es z = some b
    · rw [if_pos q]
      intro e he
      rw [List.mem_singleton.mp he]
      exact hS z b q
    · rw [if_neg q]; exact h b
  exact pairF_pn _ _ _ _ (he true) (he false) fun e h => by cases h
theorem waysS_pn {rs : List Row} {es : Wsh} {S : Str → Prop} (hS : ∀ z b, endO es z = some b → S z) : ∀ l : List Row, WN S (waysS rs es l).1 ∧ ∀ z b, PN S ((waysS rs es l).2 z b)
  | [] => ⟨(fun e h => by cases h), fun z b e h => by cases h⟩
  | r :: l => by
    obtain ⟨h1, h2⟩ := waysS_pn hS l
    obtain ⟨m1, m2, m3⟩ := meet_pn (rs := rs) hS (W := (waysS rs es l).2) (z := r.nm) fun b => h2 r.nm b
    refine ⟨fun e he => ?_, fun z b => ?_⟩
    · rcases List.mem_append.mp he with he | he
      · exact h1 e he
      · exact m1 e he
    · show PN S (if z = r.fo then (waysS rs es l).2 z b ++ letL (sideP (meetP rs es (waysS rs es l).2 r.nm) b) (stepR rs r) else (waysS rs es l).2 z b)
      by_cases q : z = r.fo
      · rw [if_pos q]
        intro e he
        rcases List.mem_append.mp he with he | he
        · exact h2 z b e he
        · refine PN.letp (l := sideP (meetP rs es (waysS rs es l).2 r.nm) b) ?_ _ e he
          cases b
          · exact m3
          · exact m2
      · rw [if_neg q]; exact h2 z b
theorem waysF_pn {rs : List Row} {es : Wsh} (ok : EndsOk rs es) : WN (fun z => z ∈ plc rs) (waysF rs es) := by
  have hS : ∀ z b, endO es z = some b → z ∈ plc rs := fun z b h => mem_plc.mpr (end_plc ok h)
  obtain ⟨h1, h2⟩ := waysS_pn (rs := rs) hS rs
  obtain ⟨m1, _, _⟩ := meet_pn (rs := rs) hS (W := (waysS rs es rs).2) (z := "top") fun b => h2 _ b
  intro e he
  rcases List.mem_append.mp he with he | he
  · exact h1 e he
  · exact m1 e he
theorem waysF_len {rs : List Row} (hv : Valid rs) (es : Wsh) : (waysF rs es).length ≤ rs.length + 1 := by
  have h := ways_pot rs es rs [] hv
  have m := meet_len rs es (waysS rs es rs).2 "top"
  have e : ((plc []).map (wLen (waysS rs es rs).2)).sum = wLen (waysS rs es rs).2 "top" := by
    show (wLen (waysS rs es rs).2 "top" + 0 : Nat) = _
    exact Nat.add_zero _
  rw [e] at h
  unfold wLen at h
  show ((waysS rs es rs).1 ++ (meetP rs es (waysS rs es rs).2 "top").1).length ≤ _
  rw [List.length_append]
  omega
/-! ### what is asked, told or refused -/
structure ErrsW (K : PySem.W.Frag) (mg : Str → Option Value) (CB CW CD CN CT CX : Addr) : Prop where
  B : ErrT K mg CB "Barred" "one"
  o : PySem.W.findIn K (.ref CB) "other" = some none
  W : ErrT K mg CW "BadWish" "box"
  D : Err0 K mg CD "BadDefault"
  N : ErrT K mg CN "BadNumber" "number"
  T : ErrT K mg CT "TooDear" "cost"
  X : ErrT K mg CX "NoBox" "box"
def RefW (CB : Addr) (H' : Hp) (cls : Value) (d : Option Addr) (xs : List V) : Prop :=
   cls = .ref CB ∧ ∃ dd x y, d = some dd ∧ H' dd = some (.xd [("other", y), ("one", x)]) ∧ xs = [.str ("barred" : Str), x, y]
def TAsk (CB : Addr) : (XK → Hp → VK → Prop) → Hp → VK → Prop := fun tl H Q =>
  tl (fun cls d H' => ∃ xs, RefW CB H' cls d xs ∧ ∀ p, H' p = none → Q (.ref p) (upd H' p (.tup xs))) H (fun v H' => ([V.str ("told" : Str), v] : List V).length ≤ sizeLine ∧ ∀ p, H' p = none → Q (.ref p) (upd H' p (.tup [.str ("told" : Str), v])))
abbrev nRf : List Str := ["_law_ask", "e"]
theorem sc_Rf : FnScope nRf ["_law_ask"] (defScope s_L_asked) := ⟨rfl, rfl, rfl, by decide +kernel, rfl, by decide +kernel, by decide +kernel⟩
theorem pss_len {X : Cx} {ss : List Stmt} {t : TS} (h : PSs X ss t) : PSs X ss (fun D σ H => σ.length = X.N.length → t D σ H) := ⟨fun pins s σ H D I q => h.run pins s σ H D I (q I.len)⟩
abbrev tRf0 (wd : Str) : TS := tRet (tTup (tCons (tC (.str wd)) tNil))
abbrev tRf (a : Addr) (cls : Value) (d : Option Addr) (wd : Str) (C : Addr) (f : Str) : TS := fun D σ H => σ.length = nRf.length → tRet (tTup (tCons (tC (.str wd)) (tCons (tXf a cls d C f (tVar 1)) tNil))) D σ H
abbrev tBf (a : Addr) (cls : Value) (d : Option Addr) (C : Addr) : TS := fun D σ H => σ.length = nRf.length → tRet (tTup (tCons (tC (.str ("barred" : Str))) (tCons (tXf a cls d C "one" (tVar 1)) (tCons (tXf a cls d C "other" (tVar 1)) tNil)))) D σ H
theorem asked_gives {X : Cx} {g CB CW CD CN CT CX_ : Addr} {cdg : Value} {q : Str} (T : ErrsW X.K X.mg CB CW CD CN CT CX_) : LamX.GivesTo X nRf "_law_asked" (defScope s_L_asked) g cdg (defBody s_L_asked) "_law_ask" q (TAsk CB) := by
  intro f c' s H Q tl act hc h
  refine ⟨_, pss_one (ps_try_asm (X := (cxOf C8.CX0 X.prog X.w X.K X.mg X.base nRf "_law_asked" (defScope s_L_asked) g cdg X.A X.stack s H C8.E0).nox)
      (tb := fun W D σ H => ∃ Ech : XK, (∀ cls d σ' H', Ech cls d H' → W cls d σ' H') ∧ σ[0]? = some (some (.ref f)) ∧ H c' = some (LamX.CodeO c' q) ∧ tl Ech H (fun v H1 => ([V.str ("told" : Str), v] : List V).length ≤ sizeLine ∧ ∀ p, H1 p = none → D.rt (.ref p) (upd H1 p (.tup [.str ("told" : Str), v]))))
      (W0 := fun _ _ _ _ => False)
      (cls := [(.ref CB, some 1, fun a cls d => tBf a cls d CB), (.ref CW, some 1, fun a cls d => tRf a cls d "wish" CW "box"), (.ref CD, none, fun _ _ _ => tRf0 "default"), (.ref CN, some 1, fun a cls d => tRf a cls d "number" CN "number"), (.ref CT, some 1, fun a cls d => tRf a cls d "dear" CT "cost"), (.ref CX_, some 1, fun a cls d => tRf a cls d "box" CX_ "box")])
      rfl rfl sc_Rf.nd LamX.takes0 (fun W pn xe tk _ => ?_)
      (.cons rfl rfl ⟨rfl, by decide, .inl T.B.g⟩ (fun a oe cls d pn hz hf => pss_len (pss_one (ps_ret (by exact pe_tup (pa_cons pe_str (pa_cons (pe_xf T.B.X T.B.nb hz hf (pv 1)) (pa_cons (pe_xf T.B.X T.o hz hf (pv 1)) pa_nil)))))))
        (.cons rfl rfl ⟨rfl, by decide, .inl T.W.g⟩ (fun a oe cls d pn hz hf => pss_len (pss_one (ps_ret (by exact pe_tup (pa_cons pe_str (pa_cons (pe_xf T.W.X T.W.nb hz hf (pv 1)) pa_nil))))))
        (.bare ⟨rfl, by decide, .inl T.D.g⟩ (fun a oe cls d pn hz hf => pss_one (ps_ret (by exact pe_tup (pa_cons pe_str pa_nil))))
        (.cons rfl rfl ⟨rfl, by decide, .inl T.N.g⟩ (fun a oe cls d pn hz hf => pss_len (pss_one (ps_ret (by exact pe_tup (pa_cons pe_str (pa_cons (pe_xf T.N.X T.N.nb hz hf (pv 1)) pa_nil))))))
        (.cons rfl rfl ⟨rfl, by decide, .inl T.T.g⟩ (fun a oe cls d pn hz hf => pss_len (pss_one (ps_ret (by exact pe_tup (pa_cons pe_str (pa_cons (pe_xf T.T.X T.T.nb hz hf (pv 1)) pa_nil))))))
        (.cons rfl rfl ⟨rfl, by decide, .inl T.X.g⟩ (fun a oe cls d pn hz hf => pss_len (pss_one (ps_ret (by exact pe_tup (pa_cons pe_str (pa_cons (pe_xf T.X.X T.X.nb hz hf (pv 1)) pa_nil)))))) .nil))))))), ?_⟩
  · refine ⟨fun pins s' σ H' D I h' => ?_⟩
    obtain ⟨Ech, hW, h1, h2, h3⟩ := h'
    exact PSs.run (pss_one (ps_ret (pe_tup (pa_cons pe_str (pa_cons (act W pn xe Ech _ _ tk hW) pa_nil))))) pins s' σ H' D I ⟨h1, h2, h3⟩
  · refine ⟨_, fun cls d σ' H' z => ?_, rfl, hc, h⟩
    have no2 : ∀ {P : Prop}, (true = false) → P := fun q => Bool.noConfusion q
    have lk : ∀ a : Addr, (σ'.set 1 (some (V.ref a))).length = nRf.length → (σ'.set 1 (some (V.ref a)))[1]? = some (some (V.ref a)) := fun a hl => List.getElem?_set_self (by rw [List.length_set] at hl; rw [hl]; decide)
    obtain ⟨xs, ⟨rfl, dd, x, y, rfl, e, rfl⟩, k⟩ := z
    exact ⟨true, T.B.te, fun _ a ha hl => ⟨_, lk a hl, rfl, rfl, dd, _, x, rfl, e, (by rfl), _, lk a hl, rfl, rfl, dd, _, y, rfl, e, (by simp [List.lookup]), (by show 3 ≤ sizeLine; decide), fun p hp => k p hp⟩, no2⟩
/-! ### a def whose code object is known -/
structure FunC (K : PySem.W.Frag) (x q : Str) (st : Stmt) (f : Addr) (fd : FuncData) (c : Addr) : Prop where
  ex : ∃ (oc : Value) (od : Option Addr) (kV doc pm : Value) (an : Option Addr) (ct : Value) (osl : Array (Option Value)),
    fd = PySem.W.fnOf x q (defArgs st) (defBody st) (defScope st) .none kV doc pm an (.ref c) ct ∧ K.lookup f = some ⟨oc, od, .func fd, osl⟩ ∧ PySem.W.codeIn K (.ref c) q = true
  kp : PySem.W.keepIn K (.ref f) = true
section
variable {P : Program} {w : World} {K : PySem.W.Frag} {mg : Str → Option Value} {base : Heap} {C : Addr}
theorem FunC.ok {x qual : Str} {st : Stmt} {f c : Addr} {fd : FuncData} {N ps : List Str} {k : Nat} {sp : Sp} (F : FunC K x qual st f fd c) (S : FnScope N ps (defScope st)) (len : ∀ vs H Q E, sp vs H Q E → vs.length = ps.length)
    (hbody : ∀ (A : Around) (outer : List Env) (s : Shared) (H : Hp) (vs : List V) (Q : VK) (E : XK), Room k (A.deeper (PyProof.Rows.envOfC qual (defScope st) s.heap.objs.size f (.ref c))) → sp vs H Q E →
      ∃ t, PSs (cxOf CX0 P w K mg base N qual (defScope st) f (.ref c) A outer s H E).nox (defBody st) t ∧ t { nx := fun _ H' => Q .non H', rt := Q } (L2.start N vs) H) : FnOk P w K mg base CX0 (k + 1) f fd ps sp := by
  obtain ⟨oc, od, kV, doc, pm, an, ct, osl, rfl, lk, hcd⟩ := F.ex
  refine fn_of lk hcd S len fun A outer s H vs Q E hr hsp => ?_
  obtain ⟨t, h, q⟩ := hbody A outer s H vs Q E hr hsp
  exact ⟨t, h.nox, q⟩
structure DefC (K : PySem.W.Frag) (mg : Str → Option Value) (x : Str) (st : Stmt) (ps : List Str) where
  f : Addr
  fd : FuncData
  c : Addr
  F : FunC K x x st f fd c
  b : Binds K fd ps []
  g : mg x = some (.ref f)
theorem pe_asked {X : Cx} {T : List (Addr × Str)} {c P : Addr} {k : Nat} {params : Arguments} {body : Expr} {scope : Scope} {t : XK → TE} {p lpos pos : Pos} (D : DefAt X.K X.mg "_law_asked" s_L_asked ["_law_ask"]) {CB CW CD CN CT CX_ : Addr} (TN : ErrsW X.K X.mg CB CW CD CN CT CX_)
    (hg : Gl X "_law_asked") (TB : TabB X.base X.mg c P) (hcode : X.env.code = .ref c) (hmT : (P, X.env.qual ++ "<lambda>") ∈ T) (hu : ∀ p ∈ T, p.1 = P → p.2 = X.env.qual ++ "<lambda>") (hr : Room (k + 2) X.A) (L : LamX.LamS X.env.scope scope) (hdef : defaultsOf params X.env = ([], []))
    (hbind : ∀ (q : Str) (cl : List (Str × Addr)) (pm cv ctv : Value), bindArgs (PySem.W.kla_fn "<lambda>" q params body scope cl pm cv ctv) ⟨[], []⟩ = pure [])
    (hbody : ∀ (A : Around) (outer : List Env) (s : Shared) (H : Hp) (E : XK) (f c' : Addr), Room k (A.deeper (LamX.lamEnv X scope s.heap.objs.size f c')) → PE (LamX.lamCx X A outer s H E scope f c') body (t E)) :
    PE X (.Call (.Name "_law_asked" p) [.Lambda params body scope lpos] [] pos) (LamX.tLam T (TAsk CB) t) := by
  obtain ⟨f, fd, F, b, g⟩ := D
  have kp := F.kp
  obtain ⟨oc, od, kV, doc, pm, an, cdv, ct, osl, rfl, lk, hcd⟩ := F.ex
  exact LamX.pe_lamcall hg g kp lk hcd b sc_Rf rfl (.inl rfl) (asked_gives TN) TB hcode hmT hu hr L hdef hbind hbody
end
theorem tabs_put {T : List (Addr × Str)} {H : Hp} {D : Addr} {xs ys : List V} (h : Tabs T H) (e : H D = some (.lst xs)) : Tabs T (upd H D (.lst ys)) := fun p hp => by
  obtain ⟨ps, h1, h2, h3⟩ := h p hp
  have n1 : p.1 ≠ D := fun q => by rw [q, e] at h1; cases h1
  refine ⟨ps, by rw [upd_ne n1]; exact h1, h2, fun pos cv hc => ?_⟩
  obtain ⟨c, e1, e2⟩ := h3 pos cv hc
  refine ⟨c, e1, ?_⟩
  rw [upd_ne fun q => by rw [q, e] at e2; unfold LamX.CodeO at e2; cases e2]
  exact e2
theorem tabs_sb {T : List (Addr × Str)} {H H' : Hp} {a : Addr} {n : Int} (h : Tabs T H) (st : Stm H a n) (s : SB a H H') : Tabs T H' := fun p hp => by
  obtain ⟨ps, h1, h2, h3⟩ := h p hp
  obtain ⟨x, y, z, ea, _⟩ := st
  have n1 : p.1 ≠ a := fun q => by rw [q, ea] at h1; cases h1
  refine ⟨ps, s _ _ n1 h1, h2, fun pos cv hc => ?_⟩
  obtain ⟨c, e1, e2⟩ := h3 pos cv hc
  exact ⟨c, e1, s _ _ (fun q => by rw [q, ea] at e2; unfold LamX.CodeO at e2; cases e2) e2⟩
theorem sq_ext {K : PySem.W.Frag} {H H' : Hp} {a : Addr} {xs : List V} (h : SqL K H a xs) (s : ExtN H H') : SqL K H' a xs := by
  rcases h with (h | ⟨o, h⟩) | h
  · exact .inl (.inl (s _ _ h nofun))
  · exact .inl (.inr ⟨o, s _ _ h nofun⟩)
  · exact .inr h
theorem Stm.ext {H H' : Hp} {a : Addr} {n : Int} (h : Stm H a n) (s : ExtN H H') : Stm H' a n := let ⟨x, y, z, e, k⟩ := h; ⟨x, y, z, s _ _ e nofun, k⟩
end Ts

set_option maxRecDepth 100000
set_option maxHeartbeats 8000000
namespace Ts
open PySem L2
theorem cost_turns {rs : List Row} (hv : Valid rs) (v : Str → Bool) : (costOf rs (turnsG rs v)).sum = priceV rs v := by
  unfold costOf turnsG priceV
  have key : ∀ l : List Row, (∀ r ∈ l, r ∈ rs) → ((((l.filter fun r => decide (v r.nm ≠ v r.fo)).map (·.nm)).map fun z => (((rowOf rs z).bind (·.pr)).getD 0)).sum = (l.map (costV v)).sum) := by
    intro l
    induction l with
    | nil => exact fun _ => rfl
    | cons r l ih =>
      intro h
      have hr := h r (List.mem_cons_self ..)
      obtain ⟨i, hi, e⟩ := List.mem_iff_getElem.mp hr
      have ro := rowOf_at hv (i := i) (r := r) (by rw [← e]; exact List.getElem?_eq_getElem hi)
      have ih' := ih fun q hq => h q (List.mem_cons_of_mem _ hq)
      rw [List.map_cons, List.sum_cons, ← ih']
      by_cases q : v r.nm = v r.fo
      · rw [List.filter_cons_of_neg (by simp [q])]
        unfold costV
        rw [if_pos q, Int.zero_add]
      · rw [List.filter_cons_of_pos (by simp [q]), List.map_cons, List.map_cons, List.sum_cons, ro]
        unfold costV
        rw [if_neg q]; rfl
  exact key rs fun _ h => h
def Kp (H H' : Hp) (xs : List Addr) : Prop := ∀ b o, b ∉ xs → H b = some o → H' b = some o
theorem sb_none {H H' : Hp} {a b : Addr} (s : SB a H H') (n : b ≠ a) (h : H' b = none) : H b = none := by
  cases e : H b with
  | none => rfl
  | some o => rw [s b o n e] at h; cases h
theorem Kp.of {H H' : Hp} (s : Same H H') (xs : List Addr) : Kp H H' xs := fun b o _ e => s b o e
theorem Kp.refl (H : Hp) (xs : List Addr) : Kp H H xs := fun b o _ e => e
theorem Kp.trans {H H' H2 : Hp} {xs : List Addr} (h : Kp H H' xs) (k : Kp H' H2 xs) : Kp H H2 xs := fun b o n e => k b o n (h b o n e)
theorem Kp.sb {H H' : Hp} {a : Addr} {xs : List Addr} (s : SB a H H') (h : a ∈ xs) : Kp H H' xs := fun b o n e => s b o (fun q => n (q ▸ h)) e
theorem Kp.put {H : Hp} {p : Addr} {v : HO} {xs : List Addr} (h : p ∈ xs) : Kp H (upd H p v) xs := fun b o n e => by
  rw [upd_ne fun q => n (by rw [q]; exact h)]; exact e
theorem paired_app {α β : Type} {F : α → β → Prop} {as bs : List α} {l m : List β} (h : Paired F as l) (k : Paired F bs m) : Paired F (as ++ bs) (l ++ m) := by
  induction h with
  | nil => exact k
  | cons q t ih => exact .cons q ih
theorem plc_len {rs : List Row} (hv : Valid rs) {z : Str} (h : z ∈ plc rs) : z.length ≤ 100 := by
  rcases mem_plc.mp h with rfl | h
  · exact Nat.le_trans (Nat.le_of_eq top_len) (by decide)
  · obtain ⟨r, hr, rfl⟩ := List.mem_map.mp h
    obtain ⟨i, hi, e⟩ := List.mem_iff_getElem.mp hr
    have := (hv i r (by rw [← e]; exact List.getElem?_eq_getElem hi)).shape.pos.2
    omega
theorem whv_of {rs : List Row} (hv : Valid rs) {es : Wsh} (ok : EndsOk rs es) {H : Hp} {a : Addr} {as : List Addr} (h : Seq H a (as.map V.ref)) (k : Paired (fun b e => Seq H b (wayCs e)) as (waysF rs es)) (l : rs.length ≤ 45) : WhV H (.ref a) (some ((waysF rs es).map wayCs)) := by
  have hl := waysF_len hv es
  refine .inr ⟨a, as.map V.ref, _, rfl, rfl, h, ⟨by rw [List.length_map, List.length_map]; exact k.length, fun i y cs hy hcs => ?_⟩, by rw [List.length_map]; omega⟩
  rw [List.getElem?_map] at hy hcs
  obtain ⟨b, hb, rfl⟩ := Option.map_eq_some_iff.mp hy
  obtain ⟨e, he, rfl⟩ := Option.map_eq_some_iff.mp hcs
  obtain ⟨e', he', hs⟩ := paired_get k hb
  rw [he] at he'
  cases he'
  obtain ⟨h1, h2, h3⟩ := ways_ends hv e (List.mem_of_getElem? he)
  refine .inr ⟨b, rfl, hs, (by show 3 ≤ 10; decide), fun c hc => ?_⟩
  simp only [wayCs, List.mem_cons, List.not_mem_nil, or_false] at hc
  rcases hc with rfl | rfl | rfl
  · exact .inr (.inr (.inl ⟨_, rfl⟩))
  · exact .inl ⟨_, rfl, plc_len hv (ok.inp _ (endO_some h2))⟩
  · exact .inl ⟨_, rfl, plc_len hv (ok.inp _ (endO_some h3))⟩
def spLShown (C CM CH : Addr) : Sp := fun vs H Q _ => ∃ (p t wd c : Addr) (rs : List Row) (es : Wsh) (d : Option Bool), vs = [.ref p, .ref t, .ref wd, dfV d, .ref c] ∧ RowsL H p rs ∧ TreeAt C H t rs ∧ rs.length ≤ 45 ∧ H wd = some (.dK (kvE es)) ∧ EndsOk rs es ∧ es.length ≤ 100 ∧ OkW rs es d ∧ CheAt C CM CH H c t rs (topE d es) ∧ ∀ H', Same H H' → Q (.bl true) H'
section
variable {P : Program} {w : World} {K : PySem.W.Frag} {mg : Str → Option Value} {base : Heap} {C CM CB CH : Addr}
abbrev pSn : List Str := ["_law_rows_here", "_law_tree", "_law_wish_here", "_law_default_here", "_law_found"]
abbrev nSn : List Str := ["_law_rows_here", "_law_tree", "_law_wish_here", "_law_default_here", "_law_found", "_law_pins_here", "_law_meaning", "_law_handed", "_law_amount", "_law_one", "_law_other", "_law_box", "_law_way_here"]
theorem sc_Lshown : FnScope nSn pSn (defScope s_L_is_shown) := ⟨rfl, rfl, rfl, by decide +kernel, rfl, by decide +kernel, by decide +kernel⟩
theorem ok_Lshown (D : DefAt K mg "_law_is_shown" s_L_is_shown pSn) (B : TxB mg) (hS : mg "sum" = none) (M : TxM K mg CM) (XH : TxH K mg CH)
    (Dp : DefAt K mg "_law_pins" s_L_pins pLp) (Gp : FnOk P w K mg base CX0 3 Dp.f Dp.fd pLp spLPins)
    (Da : DefAt K mg "_law_are_ways" s_L_are_ways pLa) (Ga : FnOk P w K mg base CX0 4 Da.f Da.fd pLa spLAre)
    (Dw : DefAt K mg "is_ways" s_is_ways ["tree", "wish", "default", "thing"]) (Gw : FnOk P w K mg base CX0 7 Dw.f Dw.fd ["tree", "wish", "default", "thing"] (spIsWays C))
    (mP : MethAt K CM "price" "Meaning.price" s_Meaning_price ["self"]) (GP : FnOk P w K mg base CX0 5 mP.f mP.fd ["self"] (spMPrice C CM))
    (mV : MethAt K CM "value" "Meaning.value" s_Meaning_value ["self", "box"]) (GV : FnOk P w K mg base CX0 5 mV.f mV.fd ["self", "box"] (spMValue C CM)) : FnOk P w K mg base CX0 8 D.f D.fd pSn (spLShown C CM CH) := by
  refine D.F.ok sc_Lshown (fun vs H Q E h => ?_) (fun cdv A outer s H vs Q E hr h => ?_)
  · obtain ⟨p, t, wd, c, rs, es, d, rfl, _⟩ := h
    rfl
  · obtain ⟨p, t, wd, c, rs, es, d, rfl, hL, ht, hl, hd, hok, hle, ho, hc, hq⟩ := h
    have hu := hu_of hr
    have r3 : Room 3 _ := hr.mono (by decide)
    have r4 : Room 4 _ := hr.mono (by decide)
    have r5 : Room 5 _ := hr.mono (by decide)
    refine ⟨_, pss_cons (ps_set (i := 5) sc_Lshown.nd rfl (.inr rfl) (pe_call Gp r3 rfl Dp.g Dp.F.kp Dp.b .nil pass0 (pa_cons (pv 2) (pa_cons (pv 3) pa_nil))))
      (pss_cons (ps_if (PW.pt (pw_or (pt_not (pt_val (pe_callB call_isi (by rfl) B.isinstance (by decide +kernel) (pa_cons (pe_fld (pv 4) rfl) (pa_cons (pe_bltn (by rfl) B.list (by decide +kernel) (v := .ty "list") rfl) pa_nil))))) (pw_or1 (pt_not (pt_val (pe_call Ga r4 rfl Da.g Da.F.kp Da.b .nil pass0 (pa_cons (pv 0) (pa_cons (pv 5) (pa_cons (pe_fld (pv 4) rfl) pa_nil))))))))) (pss_one (ps_ret pe_bl)) pss_nil)
      (pss_cons (ps_if (pt_cmpR op_ne (pe_callB (cr_sum rfl) (by rfl) hS (by decide +kernel) (pa_cons (pe_lc (own := [("_law_amount", 8), ("_law_one", 9), ("_law_other", 10)]) (g := gTup K 3 (gCons (gName 8) (gCons (gName 9) (gCons (gName 10) gNil)))) (tt := tYes) (te := tVar 8) rfl sc_Lshown.nd (pi_list (pe_fld (pv 4) rfl)) (blkOk_by (N := nSn) (sc := defScope s_L_is_shown) (by decide +kernel))
          (fun _ _ _ _ _ => by exact pg_tup rfl (pgs_cons (pg_name (i := 8) sc_Lshown.nd rfl (Or.inl rfl)) (pgs_cons (pg_name (i := 9) sc_Lshown.nd rfl (Or.inl rfl)) (pgs_cons (pg_name (i := 10) sc_Lshown.nd rfl (Or.inl rfl)) pgs_nil)))) (fun _ _ _ _ _ => pts_nil) (fun _ _ _ _ _ => pv 8)) pa_nil)) (pe_fld (pv 4) rfl) (nomark _)) (pss_one (ps_ret pe_bl)) pss_nil)
      (pss_cons (ps_for PassesOwn.never rfl (pi_tup (pe_tup (pa_cons (pe_fld (pv 4) rfl) (pa_cons (pe_fld (pv 4) rfl) pa_nil)))) (pg_name (i := 6) sc_Lshown.nd rfl (.inr rfl))
        (pss_one (ps_if (PW.pt (pw_or (pt_cmpR op_ne (pe_meth0 (pv 6) M.cl mP.m GP r5 mP.b .nil pass0) (pe_fld (pv 4) rfl) (nomark _)) (pw_or1 (pt_not (pt_val (pe_lock (pe_callB (cr_all rfl) (by rfl) B.all (by decide +kernel) (pa_cons (pe_lc (own := [("_law_box", 11)]) (g := gName 11) (tt := tYes) (te := tOp rEq (tMeth CM "value" (spMValue C CM) [] E0 (tVar 6) (tCons (tVar 11) tNil)) (tDGet (tVar 5) (tVar 11))) rfl sc_Lshown.nd (pi_keys (pv 5)) (blkOk_by (N := nSn) (sc := defScope s_L_is_shown) (by decide +kernel))
          (fun _ _ _ _ _ => pg_name (i := 11) sc_Lshown.nd rfl (Or.inl rfl)) (fun _ _ _ _ _ => pts_nil) (fun _ _ _ _ _ => by exact pe_cmpR op_eq (pe_meth (pv 6) M.cl mV.m GV r5 mV.b .nil pass0 (pa_cons (pv 11) pa_nil)) (pe_dget hu (pv 5) (pv 11) (fun _ _ => rfl)) (nomark _))) pa_nil)))))))) (pss_one (ps_ret pe_bl)) pss_nil)))
      (pss_cons (ps_for PassesOwn.never rfl (pi_tup (pe_tup (pa_cons (pe_fld (pv 4) rfl) (pa_cons (pe_callTy (T := "tuple") call_tuple_of (by rfl) B.tuple (by decide +kernel) (pa_cons (pe_lc (own := [("_law_way_here", 12)]) (g := gName 12) (tt := tYes) (te := tCB (fun xs H Q => ∃ p ys, xs = [V.ref p] ∧ (SqL K H p ys ∨ SqT K H p ys) ∧ ∀ l, H l = none → Q (.ref l) (upd H l (.lst ys))) (tCons (tVar 12) tNil)) rfl sc_Lshown.nd (pi_list (pe_fld (pv 4) rfl)) (blkOk_by (N := nSn) (sc := defScope s_L_is_shown) (by decide +kernel))
          (fun _ _ _ _ _ => pg_name (i := 12) sc_Lshown.nd rfl (Or.inl rfl)) (fun _ _ _ _ _ => pts_nil) (fun _ _ _ _ _ => by exact pe_callTy (T := "list") call_list_of (by rfl) B.list (by decide +kernel) (pa_cons (pv 12) pa_nil))) pa_nil)) pa_nil)))) (pg_name (i := 7) sc_Lshown.nd rfl (.inl rfl))
        (pss_one (ps_if (pt_cmpR op_isnot_bl (pe_call Gw hr rfl Dw.g Dw.F.kp Dw.b .nil pass0 (pa_cons (pv 1) (pa_cons (pv 2) (pa_cons (pv 3) (pa_cons (pv 7) pa_nil))))) pe_bl (nomark _)) (pss_one (ps_ret pe_bl)) pss_nil)))
      (pss_one (ps_ret pe_bl)))))), ?_⟩
    have hv := ht.val
    have l100 : rs.length ≤ 100 := by omega
    have hok2 := topE_ok hok (by omega) d
    obtain ⟨dxc, mw, mn, wl, hc1, hmw, hmn, ws, hwl, hwp⟩ := hc.ex
    obtain ⟨fw1, fw2, fw3⟩ := fav_good hv hok2 ho.2 true
    obtain ⟨fn1, fn2, fn3⟩ := fav_good hv hok2 ho.2 false
    have wlen' := waysF_len hv (topE d es)
    have wsum := ways_sum hv hok2 ho.2
    have wright := ways_right hv (topE d es)
    refine ⟨_, rfl, _, rfl, wd, d, es, rfl, hd, by omega, fun pd H1 hpd s1 e1 => ?_⟩
    generalize hee : topE d es = ee at *
    have lws : ws.length = (waysF rs ee).length := hwp.length
    have hsq : ∀ {H'}, Same H H' → Paired (fun b e => Seq H' b (wayCs e)) ws (waysF rs ee) := fun {H'} s => hwp.mono fun b e h => .inl (s _ _ h)
    refine ⟨_, rfl, c, CH, dxc, _, _, rfl, s1 _ _ hc1, XH.cl, XH.ny, chf_y _ _ _ _, _, _, _, _, true, rfl, .ty "list", .base (.lst (s1 _ _ hwl)), kit_ty (by decide +kernel), _, rfl, iteF' (by rfl) ?_⟩
    refine ⟨_, rfl, _, rfl, _, rfl, c, CH, dxc, _, _, rfl, s1 _ _ hc1, XH.cl, XH.ny, chf_y _ _ _ _, p, pd, .ref wl, rs, ee, _, rfl, hL.same s1, hv, l100, e1, hok2, whv_of hv hok2 (.inr (s1 _ _ hwl)) (hsq s1) hl, fun H2 s2 => ⟨_, rfl, iteF' (by rw [wright]; rfl) ?_⟩⟩
    have S2 := s1.trans s2
    -- the amounts
    refine ⟨_, rfl, c, CH, dxc, _, _, rfl, S2 _ _ hc1, XH.cl, XH.ny, chf_y _ _ _ _, wl, rfl, ⟨_, SqL.of (S2 _ _ hwl)⟩, fun D hD => ?_⟩
    refine lc_list (K := K) (a := wl) (xs := ws.map V.ref) (fun i H' => Same H2 H' ∧ H' D = some (.lst ((((waysF rs ee).take i).map fun e => e.1).map V.int))) ⟨Same.new hD, upd_same⟩ (fun i H' _ m => SqL.of (m.1 _ _ (S2 _ _ hwl))) ?_ ?_
    · rintro i x H3 hx ⟨s3, e3⟩
      rw [List.getElem?_map] at hx
      obtain ⟨b, hb, rfl⟩ := Option.map_eq_some_iff.mp hx
      obtain ⟨e, he, hs⟩ := paired_get hwp hb
      have hs3 := s3 _ _ (S2 _ _ hs)
      refine ⟨b, _, rfl, sqT hs3, rfl, _, _, rfl, _, _, rfl, _, _, rfl, rfl, rfl, tYes_if ⟨_, rfl, _, e3, small1000 (by rw [List.length_map, List.length_map, List.length_take]; omega), fun o ob eb => ?_, ?_⟩⟩
      · rw [upd_ne (ne_of_none eb hD)]; exact s3 _ _ eb
      · rw [upd_same, take_more he, List.map_append, List.map_append]; rfl
    rintro H3 ⟨s3, e3⟩
    rw [List.length_map, lws, List.take_length] at e3
    have S3 := S2.trans s3
    refine ⟨D, _, rfl, SqL.of e3, ?_⟩
    have esm : ((waysF rs ee).map fun e => e.1).sum = cheapI rs ee := wsum
    rw [esm]
    refine ⟨_, rfl, c, CH, dxc, _, _, rfl, S3 _ _ hc1, XH.cl, XH.nc, chf_c _ _ _ _, rfl, _, rfl, iteF' (by rw [decide_eq_true rfl]; rfl) ?_⟩
    -- both meanings
    refine ⟨_, rfl, c, CH, dxc, _, _, rfl, S3 _ _ hc1, XH.cl, XH.nw, chf_w _ _ _ _, _, rfl, c, CH, dxc, _, _, rfl, S3 _ _ hc1, XH.cl, XH.nn, chf_n _ _ _ _, (by show 2 ≤ sizeLine; decide), fun tq htq => ⟨tq, rfl, ⟨_, sqT upd_same⟩, ?_⟩⟩
    have s4 : Same H3 (upd H3 tq (.tup [V.ref mw, V.ref mn])) := Same.new htq
    have e4 : (upd H3 tq (.tup [V.ref mw, V.ref mn])) tq = some (.tup [V.ref mw, V.ref mn]) := upd_same
    generalize upd H3 tq (.tup [V.ref mw, V.ref mn]) = H4 at s4 e4
    have S4 := S3.trans s4
    have p4 := (s2.trans (s3.trans s4)) _ _ e1
    refine for_it (walk_tup (K := K) (a := tq) (xs := [V.ref mw, V.ref mn])) (fun i σ H' => ∃ v6 : Option V, σ = [some (.ref p), some (.ref t), some (.ref wd), some (dfV d), some (.ref c), some (.ref pd), v6, none, none, none, none, none, none] ∧ Kp H4 H' [pd] ∧ H' pd = some (.dK (kvE ee))) ⟨none, rfl, Kp.refl _ _, p4⟩ (fun i σ H' _ ⟨_, _, k, _⟩ => sqT (k _ _ ?_ e4)) ?_ ?_
    · simpa using (ne_of_none ((s2.trans s3) _ _ e1) htq).symm
    · rintro i x σ Hx H5 hi ⟨v6, rfl, k5, e5⟩ ⟨rfl, hx⟩
      have S5 : Same H H5 := fun b o e => k5 _ _ (by simpa using ne_of_none e hpd) (S4 _ _ e)
      obtain ⟨m, v, rfl, hm, hk, hpr⟩ : ∃ (m : Addr) (v : Str → Bool), x = .ref m ∧ MV C CM H m t rs v ∧ Keeps ee v ∧ priceV rs v = cheapI rs ee := by
        match i, hx with
        | 0, hx => cases hx; exact ⟨mw, _, rfl, hmw, fw2, fw3⟩
        | 1, hx => cases hx; exact ⟨mn, _, rfl, hmn, fn2, fn3⟩
      have lt : (turnsG rs v).length ≤ 1000 := by
        unfold turnsG
        rw [List.length_map]
        exact Nat.le_trans (List.length_filter_le _ _) (by omega)
      obtain ⟨mdx, mu, mk, m1, _⟩ := id hm.turns.ex
      have noP : (mf t mu mk (v "top")).lookup ("price" : Str) = none := by rfl
      have noV : (mf t mu mk (v "top")).lookup ("value" : Str) = none := by rfl
      refine ⟨_, rfl, m, mdx, _, rfl, S5 _ _ m1, noP, m, t, rs, _, _, rfl, (hm.same S5).turns, lt, hm.free, fun H6 s6 => ?_⟩
      rw [cost_turns hv, hpr]
      have S6 := S5.trans s6
      have e6 := s6 _ _ e5
      refine ⟨_, rfl, c, CH, dxc, _, _, rfl, S6 _ _ hc1, XH.cl, XH.nc, chf_c _ _ _ _, rfl, _, rfl, iteF' (by rw [decide_eq_true rfl]; rfl) ?_⟩
      refine ⟨pd, _, e6, trivial, fun od => ?_⟩
      obtain ⟨Hl, El⟩ : ∃ Hx, Hx = upd H6 pd (.frz od (.dK (kvE ee))) := ⟨_, rfl⟩
      have lk : Hl pd = some (.frz od (.dK (kvE ee))) := by rw [El]; exact upd_same
      have keep : ∀ b o, b ≠ pd → H6 b = some o → Hl b = some o := fun b o nb e => by rw [El, upd_ne nb]; exact e
      rw [← El]
      clear El
      have SL : Same H Hl := fun b o e => keep _ _ (ne_of_none e hpd) (S6 _ _ e)
      refine ⟨_, rfl, pd, od, rfl, .inl ⟨_, lk, fun F hF => ?_⟩⟩
      refine lc_it (walk_keys (d := pd) (o := od) (kvs := kvE ee)) (fun i H' => Same Hl H' ∧ H' F = some (.lst (((ee.take i).map fun _ => true).map V.bl))) ⟨Same.new hF, upd_same⟩ (fun i H' _ m => m.1 _ _ lk) ?_ ?_
      · rintro j x H7x H7 hj ⟨s7, e7⟩ ⟨rfl, k', v', hk', rfl⟩
        obtain ⟨e, he, heq⟩ : ∃ e, ee[j]? = some e ∧ (((.inr e.1 : Key), V.bl e.2) : Key × V) = (k', v') := by
          unfold kvE at hk'
          rw [List.getElem?_map] at hk'
          obtain ⟨e, he, h⟩ := Option.map_eq_some_iff.mp hk'
          exact ⟨e, he, h⟩
        cases heq
        have hem := List.mem_of_getElem? he
        have hz := hok2.inp e hem
        have S7 := SL.trans s7
        have dg : DGet H7 pd (.str e.1) (some (.bl e.2)) := .inl ⟨_, .inr e.1, .inr ⟨od, s7 _ _ lk⟩, rfl, by rw [kvE_val, endO_mem hok2.nd hem]; rfl⟩
        refine ⟨rfl, tYes_if ⟨_, rfl, m, mdx, _, rfl, S7 _ _ m1, noV, _, rfl, m, t, e.1, rs, _, _, rfl, (hm.same S7).turns, mem_plc.mp hz, _, rfl, _, rfl, pd, _, rfl, dg, rfl, ?_⟩⟩
        rw [val_turnsG hv v e.1 hz, hk e hem, decide_eq_true rfl]
        refine ⟨_, e7, small1000 (by rw [List.length_map, List.length_map, List.length_take]; have := hok2.len; omega), fun o ob eb => ?_, ?_⟩
        · rw [upd_ne (ne_of_none eb hF)]; exact s7 _ _ eb
        · rw [upd_same, take_more he, List.map_append, List.map_append]; rfl
      rintro H7 ⟨s7, e7⟩
      rw [show (kvE ee).length = ee.length from by unfold kvE; rw [List.length_map], List.take_length] at e7
      refine ⟨F, _, rfl, SqL.of e7, s7 _ _ lk, _, rfl, iteF' ?_ ?_⟩
      · have : ((ee.map fun _ => true).all id) = true := List.all_eq_true.mpr fun b hb => by
          obtain ⟨_, _, rfl⟩ := List.mem_map.mp hb
          rfl
        rw [this]; rfl
      refine ⟨some (.ref m), rfl, fun b o nb e => ?_, upd_same⟩
      have nb' : b ≠ pd := by simpa using nb
      rw [upd_ne nb']
      exact s7 _ _ (keep _ _ nb' (s6 _ _ (k5 _ _ nb e)))
    rintro σ H5 ⟨v6, rfl, k5, e5⟩
    have S5 : Same H H5 := fun b o e => k5 _ _ (by simpa using ne_of_none e hpd) (S4 _ _ e)
    refine ⟨_, rfl, c, CH, dxc, _, _, rfl, S5 _ _ hc1, XH.cl, XH.ny, chf_y _ _ _ _, _, rfl, c, CH, dxc, _, _, rfl, S5 _ _ hc1, XH.cl, XH.ny, chf_y _ _ _ _, wl, rfl, ⟨_, SqL.of (S5 _ _ hwl)⟩, fun D2 hD2 => ?_⟩
    refine lc_list (K := K) (a := wl) (xs := ws.map V.ref) (fun i H' => Same H5 H' ∧ ∃ bs : List Addr, H' D2 = some (.lst (bs.map V.ref)) ∧ Paired (fun b e => b ≠ D2 ∧ H' b = some (.lst (wayCs e))) bs ((waysF rs ee).take i)) ⟨Same.new hD2, [], upd_same, .nil⟩ (fun i H' _ m => SqL.of (m.1 _ _ (S5 _ _ hwl))) ?_ ?_
    · rintro i x H6 hx ⟨s6, bs, e6, pr6⟩
      rw [List.getElem?_map] at hx
      obtain ⟨b, hb, rfl⟩ := Option.map_eq_some_iff.mp hx
      obtain ⟨e, he, hs⟩ := paired_get hwp hb
      have hs6 := s6 _ _ (S5 _ _ hs)
      have lbs : bs.length ≤ 50 := by rw [pr6.length, List.length_take]; omega
      refine ⟨rfl, tYes_if ⟨_, rfl, b, _, rfl, .inr (sqT hs6), fun l hl => ?_⟩⟩
      have s7 : Same H6 (upd H6 l (.lst [V.int e.1, V.str e.2.1, V.str e.2.2])) := Same.new hl
      have e7 : (upd H6 l (.lst [V.int e.1, V.str e.2.1, V.str e.2.2])) l = some (.lst (wayCs e)) := upd_same
      have l2 : l ≠ D2 := (ne_of_none e6 hl).symm
      generalize upd H6 l (.lst [V.int e.1, V.str e.2.1, V.str e.2.2]) = H7 at s7 e7
      refine ⟨_, s7 _ _ e6, small1000 (by rw [List.length_map]; omega), fun o ob eb => ?_, bs ++ [l], by rw [upd_same, List.map_append]; rfl, ?_⟩
      · rw [upd_ne (ne_of_none eb hD2)]; exact s7 _ _ (s6 _ _ eb)
      · rw [take_more he]
        exact paired_app (pr6.mono fun b e h => ⟨h.1, by rw [upd_ne h.1]; exact s7 _ _ h.2⟩) (.cons ⟨l2, by rw [upd_ne l2]; exact e7⟩ .nil)
    rintro H6 ⟨s6, bs, e6, pr6⟩
    rw [List.length_map, lws, List.take_length] at pr6
    have S6 := S5.trans s6
    refine ⟨D2, _, rfl, .inl ⟨SqL.of e6, fun q hq' => ?_⟩⟩
    have s7 : Same H6 (upd H6 q (.tup (bs.map V.ref))) := Same.new hq'
    have e7 : (upd H6 q (.tup (bs.map V.ref))) q = some (.tup (bs.map V.ref)) := upd_same
    generalize upd H6 q (.tup (bs.map V.ref)) = H7 at s7 e7
    refine ⟨(by show 2 ≤ sizeLine; decide), fun tq2 htq2 => ⟨tq2, rfl, ⟨_, sqT upd_same⟩, ?_⟩⟩
    have s8 : Same H7 (upd H7 tq2 (.tup [V.ref wl, V.ref q])) := Same.new htq2
    have e8 : (upd H7 tq2 (.tup [V.ref wl, V.ref q])) tq2 = some (.tup [V.ref wl, V.ref q]) := upd_same
    generalize upd H7 tq2 (.tup [V.ref wl, V.ref q]) = H8 at s8 e8
    have S8 := S6.trans (s7.trans s8)
    refine for_it (walk_tup (K := K) (a := tq2) (xs := [V.ref wl, V.ref q])) (fun i σ H' => ∃ v7 : Option V, σ = [some (.ref p), some (.ref t), some (.ref wd), some (dfV d), some (.ref c), some (.ref pd), v6, v7, none, none, none, none, none] ∧ Same H8 H') ⟨none, rfl, Same.refl _⟩ (fun i σ H' _ ⟨_, _, k⟩ => sqT (k _ _ e8)) ?_ ?_
    · rintro i x σ Hx H9 hi ⟨v7, rfl, s9⟩ ⟨rfl, hx⟩
      have S9 := S8.trans s9
      have wx : WhV H9 x (some ((waysF rs ee).map wayCs)) := by
        match i, hx with
        | 0, hx => cases hx; exact whv_of hv hok2 (.inr (S9 _ _ hwl)) (hsq S9) hl
        | 1, hx => cases hx; exact whv_of hv hok2 (.inl ((s8.trans s9) _ _ e7)) (pr6.mono fun b e h => .inr ((s7.trans (s8.trans s9)) _ _ h.2)) hl
      refine ⟨_, rfl, _, rfl, _, rfl, _, rfl, t, wd, x, rs, es, d, _, rfl, ht.same S9, S9 _ _ hd, hok, by omega, wx, fun H10 s10 => ?_⟩
      rw [hee, wright]
      exact ⟨_, _, rfl, rfl, _, rfl, iteF' (by rfl) ⟨some x, rfl, s9.trans s10⟩⟩
    rintro σ H9 ⟨v7, rfl, s9⟩
    exact hq _ (S8.trans s9)
end
end Ts

set_option maxRecDepth 100000
set_option maxHeartbeats 4000000
namespace Ts
open PySem L2
def spMStates (C CM : Addr) : Sp := fun vs H Q _ => ∃ (m t : Addr) (rs : List Row) (d : Bool) (ts : List Str), vs = [.ref m] ∧ MeanAt C CM H m t rs d ts ∧ ∀ D, H D = none → Q (.ref D) (upd H D (.dK (kvM rs d ts rs)))
section
variable {P : Program} {w : World} {K : PySem.W.Frag} {mg : Str → Option Value} {base : Heap} {C CM : Addr}
abbrev nMPrice : List Str := ["self", "box"]
theorem sc_M_price : FnScope nMPrice ["self"] (defScope s_Meaning_price) := ⟨rfl, rfl, rfl, by decide +kernel, rfl, by decide +kernel, by decide +kernel⟩
theorem ok_M_price {f : Addr} {fd : FuncData} (F : Fun K "price" "Meaning.price" s_Meaning_price f fd) (hB : mg "sum" = none) (T : TxT K mg C) (M : TxM K mg CM)
    (mP : MethAt K C "price" "Tree.price" s_Tree_price ["self", "box"]) (GP : FnOk P w K mg base CX0 4 mP.f mP.fd ["self", "box"] (spGet C fun r => prV r.pr)) : FnOk P w K mg base CX0 5 f fd ["self"] (spMPrice C CM) := by
  refine F.ok sc_M_price (fun vs H Q E h => ?_) (fun cdv A outer s H vs Q E hr h => ?_)
  · obtain ⟨m, t, rs, d, ts, rfl, _⟩ := h
    rfl
  · obtain ⟨m, t, rs, d, ts, rfl, hm, hl, hfree, hq⟩ := h
    obtain ⟨dx, u, k, h1, h2, h3⟩ := hm.ex
    obtain ⟨tx, q, f, kk, p, qs, t1, _⟩ := id hm.tree.ex
    have noP : (tf q f kk p).lookup ("price" : Str) = none := tf_no _ _ _ _ (by decide +kernel) (by decide +kernel) (by decide +kernel) (by decide +kernel)
    refine ⟨_, pss_one (ps_ret (pe_callB (cr_sum rfl) (by rfl) hB (by decide +kernel) (pa_cons (pe_lc (own := [("box", 1)]) (g := gName 1) (tt := tYes) (te := tMeth C "price" (spGet C fun r => prV r.pr) [] E0 (tFld K (tVar 0) "tree") (tCons (tVar 1) tNil)) rfl sc_M_price.nd (pi_tup (pe_fld (pv 0) rfl)) (blkOk_by (N := nMPrice) (sc := defScope s_Meaning_price) (by decide +kernel))
        (fun _ _ _ _ _ => pg_name (i := 1) sc_M_price.nd rfl (Or.inl rfl)) (fun _ _ _ _ _ => pts_nil) (fun _ _ _ _ _ => by exact pe_meth (pe_fld (pv 0) rfl) T.cl mP.m GP hr mP.b .nil pass0 (pa_cons (pv 1) pa_nil))) pa_nil))), ?_⟩
    refine ⟨_, rfl, m, CM, dx, _, _, rfl, h1, M.cl, M.nu, mf_u _ _ _ _, u, rfl, ⟨_, sqT h2⟩, fun D hD => ?_⟩
    refine lc_tup (K := K) (a := u) (xs := ts.map V.str) (fun i H' => Same H H' ∧ H' D = some (.lst ((costOf rs (ts.take i)).map V.int))) ⟨Same.new hD, upd_same⟩ (fun i H' _ m => sqT (m.1 _ _ h2)) ?_ ?_
    · rintro i x H2 hx ⟨s2, hD2⟩
      rw [List.getElem?_map] at hx
      obtain ⟨z, hz, rfl⟩ := Option.map_eq_some_iff.mp hx
      obtain ⟨r, hr', hp⟩ := hfree z (List.mem_of_getElem? hz)
      obtain ⟨c, hc⟩ : ∃ c, r.pr = some c := Option.ne_none_iff_exists'.mp hp
      refine ⟨rfl, tYes_if ⟨_, rfl, m, CM, dx, _, _, rfl, s2 _ _ h1, M.cl, M.nt, mf_t _ _ _ _, t, tx, _, rfl, s2 _ _ t1, noP, _, rfl, t, z, rs, r, rfl, hm.tree.same s2, hr', _, hD2, small1000 (by unfold costOf; rw [List.length_map, List.length_map, List.length_take]; omega), fun b o eb => ?_, ?_⟩⟩
      · rw [upd_ne (fun y => by rw [y, hD] at eb; cases eb)]
        exact s2 _ _ eb
      · have e : prV r.pr = .int c := by rw [hc]; rfl
        rw [upd_same, take_more hz]
        unfold costOf
        rw [List.map_append, List.map_append]
        show some (HO.lst (_ ++ [prV r.pr])) = some (HO.lst (_ ++ [V.int (((rowOf rs z).bind (·.pr)).getD 0)]))
        rw [e, hr']
        show _ = some (HO.lst (_ ++ [V.int (r.pr.getD 0)]))
        rw [hc]; rfl
    · rintro H2 ⟨s2, hD2⟩
      rw [List.length_map, List.take_length] at hD2
      exact ⟨D, _, rfl, SqL.of hD2, hq H2 s2⟩
end
end Ts

set_option maxRecDepth 100000
set_option maxHeartbeats 16000000
namespace Ts
open PySem L2
open LamX (ExtN Tabs TabB)
def spLawT (K : PySem.W.Frag) (T : List (Addr × Str)) : Sp := fun vs H Q _ => ∃ (a : Addr) (ns : List Int), vs = [.ref a] ∧ SqL K H a (ns.map V.int) ∧ ns.length ≤ 63 ∧ Tabs T H ∧ ∀ H', Q (.bl true) H'
abbrev qLw : Str := "law.<locals>.<lambda>"
def spCheapC (C CM CH : Addr) : Sp := fun vs H Q E => ∃ (t wd : Addr) (rs : List Row) (es : Wsh) (d : Option Bool), vs = [.ref t, .ref wd, dfV d] ∧ TreeAt C H t rs ∧ H wd = some (.dK (kvE es)) ∧ EndsOk rs es ∧ es.length ≤ 150 ∧ OkW rs es d ∧ ∀ c H', Same H H' → CheAt C CM CH H' c t rs (topE d es) → Q (.ref c) H'
theorem tabs_lst {T : List (Addr × Str)} {H H' : Hp} {a : Addr} {xs : List V} (h : Tabs T H) (e : H a = some (.lst xs)) (s : SB a H H') : Tabs T H' := fun p hp => by
  obtain ⟨ps, h1, h2, h3⟩ := h p hp
  have n1 : p.1 ≠ a := fun q => by rw [q, e] at h1; cases h1
  refine ⟨ps, s _ _ n1 h1, h2, fun pos cv hc => ?_⟩
  obtain ⟨c, e1, e2⟩ := h3 pos cv hc
  exact ⟨c, e1, s _ _ (fun q => by rw [q, e] at e2; unfold LamX.CodeO at e2; cases e2) e2⟩
theorem sq_clear {K : PySem.W.Frag} {H : Hp} {a0 wl : Addr} {ns : List Int} {ws : List Addr} (h : SqL K H a0 (ns.map V.int)) (e : H wl = some (.lst (ws.map V.ref))) : SqL K (upd H wl (.lst [])) a0 (ns.map V.int) := by
  rcases h with (h | ⟨o, h⟩) | h
  · by_cases q : a0 = wl
    · rw [q, e] at h
      have h := HO.lst.inj (Option.some.inj h)
      cases ns with
      | nil => exact SqL.of (by rw [q]; exact upd_same)
      | cons n ns => cases ws with
        | nil => cases h
        | cons w ws => exact absurd (List.cons.inj h).1 nofun
    · exact SqL.of (by rw [upd_ne q]; exact h)
  · have q : a0 ≠ wl := fun q => by rw [q, e] at h; cases h
    exact .inl (.inr ⟨o, by rw [upd_ne q]; exact h⟩)
  · exact .inr h
section
variable {P : Program} {w : World} {K : PySem.W.Frag} {mg : Str → Option Value} {base : Heap} {C CM CH CB CW CD CN CT CX_ : Addr} {T : List (Addr × Str)} {P2 : Addr}
theorem cheap_calm {f : Addr} {fd : FuncData} {k : Nat} (G : FnOk P w K mg base (L2.CX P w) k f fd ["tree", "wish", "default"] (spCheapest C CM CB CH)) : FnOk P w K mg base CX0 k f fd ["tree", "wish", "default"] (spCheapC C CM CH) := calm G fun vs H Q E h => by
  obtain ⟨t, wd, rs, es, d, rfl, ht, hd, hok, hl, ho, hq⟩ := h
  refine ⟨t, wd, rs, es, d, rfl, ht, hd, hok, hl, fun _ => hq, fun x y hb => ?_⟩
  exfalso
  rcases hb with ⟨_, _, b, h1, h2⟩ | ⟨_, hb⟩
  · exact ho.1 b h1 h2
  · have := ho.2 _ hb.1 _ hb.2.1 hb.2.2
    cases this
abbrev nLaw : List Str := ["_law_script", "_law_turn", "_law_stream_here", "_law_prices_here", "_law_most", "_law_many", "_law_rows_here", "_law_found", "_law_default_here", "_law_tree", "_law_wish_here"]
abbrev pRw : List Str := ["_law_stream_here", "_law_many", "_law_kinds_here", "_law_prices_here"]
abbrev pCh : List Str := ["tree", "wish", "default"]
theorem sc_law : FnScope nLaw ["_law_script"] (defScope s_law) := ⟨rfl, rfl, rfl, by decide +kernel, rfl, by decide +kernel, by decide +kernel⟩
theorem ok_law {fT fk : Addr} {fdT fdk : FuncData} (D : DefC K mg "law" s_law ["_law_script"]) (B : TxB mg) (TT : TxT K mg C) (XH : TxH K mg CH)
    (Dak : DefAt K mg "_law_asked" s_L_asked ["_law_ask"]) (TQE : ErrsW K mg CB CW CD CN CT CX_)
    (TB : TabB base mg D.c P2) (hm : (P2, qLw) ∈ T) (hu : ∀ p ∈ T, p.1 = P2 → p.2 = qLw)
    (Ds : DefAt K mg "_law_stream" s_L_stream ["_law_script", "_law_k"])
    (Dd : DefAt K mg "_law_draw" s_L_draw pDw) (Gd : FnOk P w K mg base CX0 2 Dd.f Dd.fd pDw spDraw)
    (Dk : DefAt K mg "_law_kinds" s_L_kinds []) (Dpr : DefAt K mg "_law_prices" s_L_prices [])
    (Drw : DefAt K mg "_law_rows" s_L_rows pRw) (Grw : FnOk P w K mg base CX0 5 Drw.f Drw.fd pRw (spRows K))
    (Dwi : DefAt K mg "_law_wish" s_L_wish pWi) (Gwi : FnOk P w K mg base CX0 4 Dwi.f Dwi.fd pWi spLWish)
    (Dde : DefAt K mg "_law_default" s_L_default ["_law_stream_here"]) (Gde : FnOk P w K mg base CX0 4 Dde.f Dde.fd ["_law_stream_here"] spLDefault)
    (Dbr : DefAt K mg "_law_barred_right" s_L_barred_right pBg) (Gbr : FnOk P w K mg base CX0 5 Dbr.f Dbr.fd pBg (spLBarRight K))
    (Dsn : DefAt K mg "_law_is_shown" s_L_is_shown pSn) (Gsn : FnOk P w K mg base CX0 8 Dsn.f Dsn.fd pSn (spLShown C CM CH))
    (gk : mg "cheapest" = some (.ref fk)) (kk : PySem.W.keepIn K (.ref fk) = true) (bk : Binds K fdk pCh []) (Xk : FnOk P w K mg base (L2.CX P w) 11 fk fdk pCh (spCheapest C CM CB CH))
    (MT : Mk K C fT) (bT : Binds K fdT ["self", "rows"] []) (GT : FnOk P w K mg base CX0 5 fT fdT ["self", "rows"] (spTreeInit C)) :
    FnOk P w K mg base CX0 14 D.f D.fd ["_law_script"] (spLawT K T) := by
  have Gk := cheap_calm Xk
  have Gs : FnOk P w K mg base CX0 2 Ds.f Ds.fd ["_law_script", "_law_k"] (spStream K) := ok_stream Ds B
  have Gki : FnOk P w K mg base CX0 2 Dk.f Dk.fd [] spKinds := ok_kinds Dk
  have Gpr : FnOk P w K mg base CX0 2 Dpr.f Dpr.fd [] spPrices := ok_prices Dpr
  refine D.F.ok sc_law (fun vs H Q E h => ?_) (fun A outer s H vs Q E hr h => ?_)
  · obtain ⟨a, ns, rfl, _⟩ := h
    rfl
  · obtain ⟨a0, ns, rfl, hS, hlen, hT, hq⟩ := h
    have h64 := hr.units
    have hu1 := Nat.lt_of_le_of_lt (Nat.le_add_right _ _) h64
    have r2 : Room 2 _ := hr.mono (by decide)
    have r4 : Room 4 _ := hr.mono (by decide)
    have r5 : Room 5 _ := hr.mono (by decide)
    have r6 : Room 6 _ := hr.mono (by decide)
    have r8 : Room 8 _ := hr.mono (by decide)
    have r11 : Room 11 _ := hr.mono (by decide)
    refine ⟨_, pss_cons (ps_for PassesOwn.never rfl (pi_range1 (by rfl) B.range (pa_cons pe_int pa_nil)) (pg_name (i := 1) sc_law.nd rfl (.inl rfl))
        (pss_cons (ps_set (i := 2) sc_law.nd rfl (.inl rfl) (pe_call Gs r2 rfl Ds.g Ds.F.kp Ds.b .nil pass0 (pa_cons (pv 0) (pa_cons (pv 1) pa_nil))))
        (pss_cons (ps_set (i := 3) sc_law.nd rfl (.inl rfl) (pe_op op_cat (pe_call0 Gpr r2 rfl Dpr.g Dpr.F.kp Dpr.b .nil pass0) (pe_lst (pa_cons pe_int (pa_cons pe_int (pa_cons (pe_op op_add pe_int (pe_call Gd r2 rfl Dd.g Dd.F.kp Dd.b .nil pass0 (pa_cons (pv 2) (pa_cons pe_int pa_nil)))) pa_nil))))))
        (pss_cons (ps_asg (pe_ix ix_list (pe_lst (pa_cons (pe_tup (pa_cons pe_int (pa_cons pe_int pa_nil))) (pa_cons (pe_tup (pa_cons pe_int (pa_cons pe_int pa_nil))) (pa_cons (pe_tup (pa_cons pe_int (pa_cons pe_int pa_nil))) (pa_cons (pe_tup (pa_cons pe_int (pa_cons pe_int pa_nil))) pa_nil))))) (pv 1) (fun _ _ => rfl)) (pg_tup rfl (pgs_cons (pg_name (i := 4) sc_law.nd rfl (.inl rfl)) (pgs_cons (pg_name (i := 5) sc_law.nd rfl (.inl rfl)) pgs_nil))))
        (pss_cons (ps_set (i := 6) sc_law.nd rfl (.inl rfl) (pe_call Grw r5 rfl Drw.g Drw.F.kp Drw.b .nil pass0 (pa_cons (pv 2) (pa_cons (pe_op op_add pe_int (pe_call Gd r2 rfl Dd.g Dd.F.kp Dd.b .nil pass0 (pa_cons (pv 2) (pa_cons (pv 4) pa_nil)))) (pa_cons (pe_call0 Gki r2 rfl Dk.g Dk.F.kp Dk.b .nil pass0) (pa_cons (pv 3) pa_nil))))))
        (pss_cons (ps_asg (pe_tup (pa_cons (pe_make MT GT r6 rfl TT.g bT .nil pass0 (pa_cons (pv 6) pa_nil)) (pa_cons (pe_call Gwi r4 rfl Dwi.g Dwi.F.kp Dwi.b .nil pass0 (pa_cons (pv 2) (pa_cons (pv 6) (pa_cons (pv 5) pa_nil)))) (pa_cons (pe_call Gde r4 rfl Dde.g Dde.F.kp Dde.b .nil pass0 (pa_cons (pv 2) pa_nil)) pa_nil)))) (pg_tup rfl (pgs_cons (pg_name (i := 9) sc_law.nd rfl (.inr rfl)) (pgs_cons (pg_name (i := 10) sc_law.nd rfl (.inr rfl)) (pgs_cons (pg_name (i := 8) sc_law.nd rfl (.inr rfl)) pgs_nil)))))
        (C8.pss_cut (ps_set (i := 7) sc_law.nd rfl (.inl rfl) (pe_asked (k := 11) (t := fun E => tCall (spCheapest C CM CB CH) [] E (tCons (tVar 9) (tCons (tVar 10) (tCons (tVar 8) tNil)))) Dak TQE (by rfl) TB rfl hm hu hr (LamX.lamS_by (show LamX.lamSB (defScope s_law) _ = true by decide +kernel)) rfl (fun _ _ _ _ _ => rfl) (fun A outer s H E f c' hr2 => pe_call Xk hr2 rfl gk kk bk .nil (passes_call (takes_of rfl rfl rfl rfl) (fun _ _ _ _ h => h)) (pa_cons (pv 9) (pa_cons (pv 10) (pa_cons (pv 8) pa_nil))))))
        (pss_one (ps_if (pt_cmpR op_eq (pe_ix ix_tup (pv 7) pe_int (fun _ _ => rfl)) pe_str (nomark _))
          (pss_cons (ps_if (pt_not (pt_val (pe_call Gsn r8 rfl Dsn.g Dsn.F.kp Dsn.b .nil pass0 (pa_cons (pv 6) (pa_cons (pv 9) (pa_cons (pv 10) (pa_cons (pv 8) (pa_cons (pe_ix ix_tup (pv 7) pe_int (fun _ _ => rfl)) pa_nil)))))))) (pss_one (ps_ret pe_bl)) pss_nil)
          (pss_cons (ps_expr (pe_bm0 PySem.F.plainAttrs_list PySem.F.slot_list_clear PySem.F.type_list_clear mt_clear (pe_fld (pe_ix ix_tup (pv 7) pe_int (fun _ _ => rfl)) rfl)))
          (pss_one (ps_if (PW.pt (pw_and (pt_cmpR op_gt (pe_fld (pe_ix ix_tup (pv 7) pe_int (fun _ _ => rfl)) rfl) pe_int (nomark _)) (pw_and1 (pt_cmpR (op_eqNil hu1) (pe_fld (pe_call Gk r11 rfl gk kk bk .nil pass0 (pa_cons (pv 9) (pa_cons (pv 10) (pa_cons (pv 8) pa_nil)))) rfl) (pe_lst pa_nil) (nomark _))))) (pss_one (ps_ret pe_bl)) pss_nil))))
          (pss_one (ps_if (pt_not (pt_val (pe_call Gbr r5 rfl Dbr.g Dbr.F.kp Dbr.b .nil pass0 (pa_cons (pv 6) (pa_cons (pv 10) (pa_cons (pv 8) (pa_cons (pv 7) pa_nil))))))) (pss_one (ps_ret pe_bl)) pss_nil)))))))))))
      (pss_one (ps_ret pe_bl)), ?_⟩
    refine ⟨4, rfl, by decide, by decide, ?_⟩
    refine for_range (lo := 0) (n := (4 : Int).toNat) (fun i σ H' => ∃ v1 v2 v3 v4 v5 v6 v7 v8 v9 v10 : Option V, σ = [some (.ref a0), v1, v2, v3, v4, v5, v6, v7, v8, v9, v10] ∧ SqL K H' a0 (ns.map V.int) ∧ Tabs T H') ⟨_, _, _, _, _, _, _, _, _, _, rfl, hS, hT⟩ ?_ ?_
    rotate_left
    · rintro σ H' ⟨_, _, _, _, _, _, _, _, _, _, rfl, _⟩
      exact hq _
    rintro i_ σ H1 hi ⟨v1, v2, v3, v4, v5, v6, v7, v8, v9, v10, rfl, hS1, hT1⟩
    have hi3 : i_ < 4 := hi
    refine ⟨_, rfl, _, rfl, a0, ns, _, rfl, hS1, by omega, by omega, fun a x y ha hx hy hy1 => ?_⟩
    have st0 : Stm (upd H1 a (.lst [.int x, .int y, .int 0])) a 0 := ⟨x, y, 0, upd_same, hx, hy, hy1, by decide, by decide⟩
    have S2 : Same H1 (upd H1 a (.lst [.int x, .int y, .int 0])) := Same.new ha
    generalize upd H1 a (.lst [.int x, .int y, .int 0]) = H2 at st0 S2
    -- the prices
    refine ⟨rfl, fun pl hpl => ?_⟩
    have s3 : Same H2 (upd H2 pl (.lst (pricesL.map prV))) := Same.new hpl
    have e3 : (upd H2 pl (.lst (pricesL.map prV))) pl = some (.lst (pricesL.map prV)) := upd_same
    have npa : pl ≠ a := (st0.ne hpl).symm
    have st3 := st0.same s3
    generalize upd H2 pl (.lst (pricesL.map prV)) = H3 at s3 e3 st3
    refine ⟨_, rfl, a, 1000, 0, rfl, st3, by decide, by decide, by decide, fun pr H4 p0 p1 st4 q4 => ⟨_, _, rfl, rfl, (by show 3 ≤ sizeLine; decide), fun l1 hl1 => ?_⟩⟩
    have e4 := sb_eq q4 _ _ npa e3
    have S4 : Same H1 H4 := smb (S2.trans s3) ha (sb_eq q4)
    have s5 : Same H4 (upd H4 l1 (.lst [V.int 1000000, V.int 999, V.int (1 + pr)])) := Same.new hl1
    have e5 : (upd H4 l1 (.lst [V.int 1000000, V.int 999, V.int (1 + pr)])) l1 = some (.lst [V.int 1000000, V.int 999, V.int (1 + pr)]) := upd_same
    generalize upd H4 l1 (.lst [V.int 1000000, V.int 999, V.int (1 + pr)]) = H5 at s5 e5
    obtain ⟨ps, hps⟩ : ∃ ps : List (Option Int), ps = pricesL ++ [some 1000000, some 999, some (1 + pr)] := ⟨_, rfl⟩
    have psok : ∀ q ∈ ps, PriceOk q := fun q hq => by
      rw [hps] at hq
      rcases List.mem_append.mp hq with h | h
      · exact prices_ok q h
      · simp only [List.mem_cons, List.not_mem_nil, or_false] at h
        rcases h with rfl | rfl | rfl
        · show (1 : Int) ≤ 1000000; decide
        · show (1 : Int) ≤ 999; decide
        · show 1 ≤ 1 + pr; omega
    have psl : ps.length = 10 := by rw [hps]; rfl
    refine ⟨pl, l1, _, _, rfl, rfl, s5 _ _ e4, e5, (by show 7 + 3 ≤ sizeLine; decide), fun pl2 hpl2 => ?_⟩
    have s6 : Same H5 (upd H5 pl2 (.lst (pricesL.map prV ++ [V.int 1000000, V.int 999, V.int (1 + pr)]))) := Same.new hpl2
    have e6 : (upd H5 pl2 (.lst (pricesL.map prV ++ [V.int 1000000, V.int 999, V.int (1 + pr)]))) pl2 = some (.lst (ps.map prV)) := by rw [upd_same, hps, List.map_append]; rfl
    have np2 : pl2 ≠ a := ((st4.same s5).ne hpl2).symm
    have st6 := (st4.same s5).same s6
    have S6 := S4.trans (s5.trans s6)
    generalize upd H5 pl2 (.lst (pricesL.map prV ++ [V.int 1000000, V.int 999, V.int (1 + pr)])) = H6 at s6 e6 st6 S6
    clear s3 e3 s5 e5 e4 q4 s6 hpl hl1 hpl2 npa st3 st4 S4 S2 st0 hx hy hy1
    -- how many
    refine ⟨(by show 2 ≤ sizeLine; decide), fun t1 h1 => ⟨(by show 2 ≤ sizeLine; decide), fun t2 h2 => ⟨(by show 2 ≤ sizeLine; decide), fun t3 h3 => ⟨(by show 2 ≤ sizeLine; decide), fun t4 h4 => ⟨(by show 4 ≤ sizeLine; decide), fun l2 hl2 => ?_⟩⟩⟩⟩⟩
    have s7 : Same H6 (upd (upd (upd (upd (upd H6 t1 (.tup [V.int 21, V.int 8])) t2 (.tup [V.int 21, V.int 8])) t3 (.tup [V.int 21, V.int 8])) t4 (.tup [V.int 37, V.int 36])) l2 (.lst [V.ref t1, V.ref t2, V.ref t3, V.ref t4])) := (Same.new h1).trans ((Same.new h2).trans ((Same.new h3).trans ((Same.new h4).trans (Same.new hl2))))
    have el : (upd (upd (upd (upd (upd H6 t1 (.tup [V.int 21, V.int 8])) t2 (.tup [V.int 21, V.int 8])) t3 (.tup [V.int 21, V.int 8])) t4 (.tup [V.int 37, V.int 36])) l2 (.lst [V.ref t1, V.ref t2, V.ref t3, V.ref t4])) l2 = some (.lst [V.ref t1, V.ref t2, V.ref t3, V.ref t4]) := upd_same
    have f1 := ((Same.new h2).trans ((Same.new h3).trans ((Same.new h4).trans (Same.new (o := .lst [V.ref t1, V.ref t2, V.ref t3, V.ref t4]) hl2)))) t1 _ (upd_same (H := H6) (o := .tup [V.int 21, V.int 8]))
    have f2 := ((Same.new h3).trans ((Same.new h4).trans (Same.new (o := .lst [V.ref t1, V.ref t2, V.ref t3, V.ref t4]) hl2))) t2 _ (upd_same (o := .tup [V.int 21, V.int 8]))
    have f3 := ((Same.new h4).trans (Same.new (o := .lst [V.ref t1, V.ref t2, V.ref t3, V.ref t4]) hl2)) t3 _ (upd_same (o := .tup [V.int 21, V.int 8]))
    have f4 := (Same.new (o := .lst [V.ref t1, V.ref t2, V.ref t3, V.ref t4]) hl2) t4 _ (upd_same (o := .tup [V.int 37, V.int 36]))
    generalize upd (upd (upd (upd (upd H6 t1 (.tup [V.int 21, V.int 8])) t2 (.tup [V.int 21, V.int 8])) t3 (.tup [V.int 21, V.int 8])) t4 (.tup [V.int 37, V.int 36])) l2 (.lst [V.ref t1, V.ref t2, V.ref t3, V.ref t4]) = H7 at s7 el f1 f2 f3 f4
    obtain ⟨tk, mo, ma, htk, etk, mo1, mo2, ma1, ma2⟩ : ∃ (tk : Addr) (mo ma : Int), atI [V.ref t1, V.ref t2, V.ref t3, V.ref t4] (0 + (i_ : Int)) = some (.ref tk) ∧ H7 tk = some (.tup [V.int mo, V.int ma]) ∧ 1 ≤ mo ∧ mo ≤ 37 ∧ 0 ≤ ma ∧ ma ≤ 36 := by
      match i_, hi3 with
      | 0, _ => exact ⟨t1, 21, 8, rfl, f1, by decide, by decide, by decide, by decide⟩
      | 1, _ => exact ⟨t2, 21, 8, rfl, f2, by decide, by decide, by decide, by decide⟩
      | 2, _ => exact ⟨t3, 21, 8, rfl, f3, by decide, by decide, by decide, by decide⟩
      | 3, _ => exact ⟨t4, 37, 36, rfl, f4, by decide, by decide, by decide, by decide⟩
    refine ⟨_, rfl, l2, _, _, .ref tk, rfl, rfl, SqL.of el, htk, tk, _, rfl, sqT etk, rfl, _, _, rfl, _, _, rfl, rfl, ?_⟩
    have st7 := st6.same s7
    have e7 := s7 _ _ e6
    have S7 := S6.trans s7
    clear el f1 f2 f3 f4 htk etk h1 h2 h3 h4 hl2 s7 e6 st6 S6
    refine ⟨_, rfl, _, rfl, _, rfl, a, mo, _, rfl, st7, by omega, mo1, by omega, fun many H8 n0 n1 st8 q8 => ⟨_, _, rfl, rfl, rfl, fun kl hkl => ?_⟩⟩
    have nka : kl ≠ a := (st8.ne hkl).symm
    have s8 : Same H7 H8 ∨ True := .inr trivial
    have s9 : Same H8 (upd H8 kl (.lst (kindsL.map V.str))) := Same.new hkl
    have S8 : Same H1 H8 := smb S7 ha (sb_eq q8)
    have e9 := s9 _ _ (sb_eq q8 _ _ np2 e7)
    refine ⟨_, rfl, a, kl, pl2, 4 + many, _, kindsL, ps, rfl, st8.same s9, by omega, by omega, by omega, nka, np2, SqL.of upd_same, SqL.of e9, by decide, by decide, by omega, by omega, kinds_ok3, psok, fun p as rs H5 hp0 hpa hp hrows hv hl hmem sb5 st5 => ?_⟩
    have S5 := smb (S8.trans s9) ha sb5
    have hL : RowsL H5 p rs := ⟨as, hp, hrows⟩
    have hl45 : rs.length ≤ 45 := by omega
    have st5 : Stm H5 a 1000 := st5.mono (by omega)
    clear q8 hkl nka s9 sb5 S8 S7 st8 st7 e7 e9 np2 hp0 hmem s8
    refine ⟨_, rfl, fun t dt nt ndt _ => ⟨t, dt, p, as, rs, rfl, upd_same, .inr (mk_same0 (C := C) nt ndt _ _ hp), (hrows.same (mk_same0 (C := C) nt ndt)).seq, by omega, hv, fun H6 sb6 ht6 => ⟨rfl, ?_⟩⟩⟩
    have s6 := mk_same nt ndt sb6
    refine ⟨_, rfl, _, rfl, _, rfl, a, p, ma, 1000, rs, rfl, st5.same s6, by decide, hL.same s6, hpa, hv, by omega, ma1, by omega, fun wd es H7 hwd nwa ewd hok les sb7 st7 => ?_⟩
    have hl6 : es.length ≤ 36 := by omega
    refine ⟨_, rfl, a, _, rfl, st7, by omega, fun d H8 sb8 st8 => ?_⟩
    have S6 := S5.trans s6
    have S8 : Same H1 H8 := smb (smb S6 ha sb7) ha sb8
    have L8 : RowsL H8 p rs := ((hL.same s6).sbk hpa (st5.same s6) sb7).sbk hpa st7 sb8
    have t8 : TreeAt C H8 t rs := (ht6.kl (KL.sb (st5.same s6) sb7)).kl (KL.sb st7 sb8)
    have w8 := sb8 _ _ nwa ewd
    refine ⟨(by show 3 ≤ sizeLine; decide), fun tq htq => ⟨tq, _, rfl, sqT upd_same, rfl, _, _, rfl, _, _, rfl, _, _, rfl, rfl, ?_⟩⟩
    have s9 : Same H8 (upd H8 tq (.tup [.ref t, .ref wd, dfV d])) := Same.new htq
    generalize upd H8 tq (.tup [V.ref t, V.ref wd, dfV d]) = H9 at s9
    have S9 := S8.trans s9
    have L9 := L8.same s9
    have t9 := t8.same s9
    have w9 := s9 _ _ w8
    clear hrows hp hL st5 nt ndt sb6 ht6 s6 hwd ewd sb7 st7 sb8 st8 S6 S8 L8 t8 w8 htq s9 S5
    have T9 := hT1.ext S9
    refine ⟨fun σ' H' => ∃ (fq : Addr) (xs : List V), σ' = [some (.ref a0), some (.int (0 + (i_ : Int))), some (.ref a), some (.ref pl2), some (.int mo), some (.int ma), some (.ref p), some (.ref fq), some (dfV d), some (.ref t), some (.ref wd)] ∧ ExtN H1 H' ∧ Tabs T H' ∧ RowsL H' p rs ∧ TreeAt C H' t rs ∧ H' wd = some (.dK (kvE es)) ∧ H' fq = some (.tup xs) ∧ ((∃ c, xs = [.str ("told" : Str), .ref c] ∧ OkW rs es d ∧ CheAt C CM CH H' c t rs (topE d es)) ∨ ∃ x y, xs = [.str ("barred" : Str), .str x, .str y] ∧ BarW rs es d x y), ?_, ?_⟩
    · refine ⟨T9, fun H14 x14 T14 => ?_⟩
      have w14 := x14 _ _ w9 nofun
      have L14 := L9.ext x14
      have t14 := t9.ext x14
      have X14 : ExtN H1 H14 := (Same.x S9).trans x14
      refine ⟨_, rfl, _, rfl, _, rfl, t, wd, rs, es, d, rfl, t14, w14, hok, by omega, fun ho c H15 s15 hc => ⟨(by show 2 ≤ sizeLine; decide), fun q hq' => ?_⟩, fun x y hxy e H15 he s15 hd => ⟨_, ⟨rfl, e, _, _, rfl, hd, rfl⟩, fun q hq' => ?_⟩⟩
      · have s16 := s15.trans (Same.new (o := .tup [.str ("told" : Str), .ref c]) hq')
        exact ⟨q, _, rfl, X14.trans (Same.x s16), T14.ext s16, L14.same s16, t14.same s16, s16 _ _ w14, upd_same, .inl ⟨c, rfl, ho, hc.same (Same.new hq')⟩⟩
      · have s16 := s15.trans (Same.new (o := .tup [.str ("barred" : Str), .str x, .str y]) hq')
        exact ⟨q, _, rfl, X14.trans (Same.x s16), T14.ext s16, L14.same s16, t14.same s16, s16 _ _ w14, upd_same, .inr ⟨x, y, rfl, hxy⟩⟩
    rintro σ' H14 ⟨fq, xs, rfl, X14, T14, L14, t14, w14, efq, hxs⟩
    rcases hxs with ⟨c, rfl, ho, hc⟩ | ⟨x, y, rfl, hbar⟩
    rotate_left
    · refine ⟨_, rfl, fq, _, _, V.str ("barred" : Str), rfl, rfl, sqT efq, rfl, rfl, _, rfl, iteF' (by decide +kernel) ?_⟩
      refine ⟨_, rfl, _, rfl, _, rfl, _, rfl, p, wd, fq, rs, es, d, x, y, rfl, L14, hv, hl45, w14, hok, by omega, sqT efq, hbar, fun H15 s15 => ⟨_, rfl, iteF' (by rfl) ?_⟩⟩
      exact ⟨_, _, _, _, _, _, _, _, _, _, rfl, sq_ext hS1 (X14.trans (Same.x s15)), T14.ext s15⟩
    refine ⟨_, rfl, fq, _, _, V.str ("told" : Str), rfl, rfl, sqT efq, rfl, rfl, _, rfl, iteT' (by rfl) ?_⟩
    refine ⟨_, rfl, _, rfl, _, rfl, _, rfl, _, rfl, fq, _, _, V.ref c, rfl, rfl, sqT efq, rfl, p, t, wd, c, rs, es, d, rfl, L14, t14, hl45, w14, hok, by omega, ho, hc, fun H15 s15 => ⟨_, rfl, iteF' (by rfl) ?_⟩⟩
    have f15 := s15 _ _ efq
    obtain ⟨dxc, mw, mn, wl, hc1, hmw, hmn, ws, hwl, hwp⟩ := (hc.same s15).ex
    refine ⟨_, rfl, fq, _, _, V.ref c, rfl, rfl, sqT f15, rfl, c, CH, dxc, _, _, rfl, hc1, XH.cl, XH.ny, chf_y _ _ _ _, ?_⟩
    refine .inl ⟨rfl, _, SqL.of hwl⟩ |> fun h => ⟨h, wl, _, rfl, rfl, hwl, ?_⟩
    have sq16 := sq_clear (sq_ext hS1 (X14.trans (Same.x s15))) hwl
    have T16 : Tabs T (upd H15 wl (.lst [])) := tabs_lst (T14.ext s15) hwl (fun b o n e => by rw [upd_ne n]; exact e)
    have f16 : (upd H15 wl (.lst [])) fq = some (.tup [.str ("told" : Str), .ref c]) := by rw [upd_ne fun q => by rw [q, hwl] at f15; cases f15]; exact f15
    have c16 : (upd H15 wl (.lst [])) c = some (.ins CH dxc (chf (.int (cheapI rs (topE d es))) (.ref mw) (.ref mn) (.ref wl))) := by rw [upd_ne fun q => by rw [q, hwl] at hc1; cases hc1]; exact hc1
    have t16 := (t14.same s15).kl (KL.upd (o := .lst []) hwl)
    have w15 := s15 _ _ w14
    have w16 : (upd H15 wl (.lst [])) wd = some (.dK (kvE es)) := by rw [upd_ne fun q => by rw [q, hwl] at w15; cases w15]; exact w15
    generalize upd H15 wl (.lst []) = H16 at sq16 T16 f16 c16 t16 w16
    refine ⟨_, rfl, fq, _, _, V.ref c, rfl, rfl, sqT f16, rfl, c, CH, dxc, _, _, rfl, c16, XH.cl, XH.nc, chf_c _ _ _ _, _, _, rfl, rfl, _, rfl, ?_⟩
    refine ite2 (fun hpos => ?_) (fun _ => ?_)
    rotate_left
    · exact ⟨_, _, _, _, _, _, _, _, _, _, rfl, sq16, T16⟩
    have hpos := of_decide_eq_true hpos
    refine ⟨_, rfl, _, rfl, _, rfl, t, wd, rs, es, d, rfl, t16, w16, hok, by omega, ho, fun c2 H17 s17 hc2 => ?_⟩
    obtain ⟨dxc2, mw2, mn2, wl2, hc21, _, _, ws2, hwl2, hwp2⟩ := hc2.ex
    refine ⟨c2, CH, dxc2, _, _, rfl, hc21, XH.cl, XH.ny, chf_y _ _ _ _, Nat.zero_le _, fun l hl => ?_⟩
    have s18 : Same H17 (upd H17 l (.lst [])) := Same.new hl
    refine ⟨wl2, l, _, rfl, rfl, SqL.of (s18 _ _ hwl2), SqL.of upd_same, _, rfl, iteF' ?_ ?_⟩
    · have hws := ways_sum hv (topE_ok hok (by omega) d) ho.2
      cases ws2 with
      | nil =>
        have hl0 := hwp2.length
        have e0 : waysF rs (topE d es) = [] := List.eq_nil_of_length_eq_zero hl0.symm
        rw [e0] at hws
        have : sumW [] = 0 := rfl
        omega
      | cons w ws => rfl
    exact ⟨_, _, _, _, _, _, _, _, _, _, rfl, sq_ext sq16 (Same.x (s17.trans s18)), T16.ext (s17.trans s18)⟩
end
end Ts

set_option maxRecDepth 100000
set_option maxHeartbeats 8000000
namespace Ts
open PySem L2
theorem defAt {K : PySem.W.Frag} {h : Heap} {mg : Str → Option Value} (X : K.In h) (G : h.Ns mainGlobals mg) {x : Str} {st : Stmt} {ps : List Str} {f : Addr} {oc : Value} {od an : Option Addr} {sl : Array (Option Value)} {kV dc pm cd ct : Value}
    (a : PySem.W.nsIn K mainGlobals x = some (some (.ref f))) (l : K.lookup f = some ⟨oc, od, .func (PySem.W.fnOf x x (defArgs st) (defBody st) (defScope st) .none kV dc pm an cd ct), sl⟩) (c : PySem.W.codeIn K cd x = true) (k : PySem.W.keepIn K (.ref f) = true)
    (hb : ∀ (kV doc pm : Value) (an : Option Addr) (cdv ct : Value) (us : List Value), us.length = ps.length → bindArgs (PySem.W.fnOf x x (defArgs st) (defBody st) (defScope st) .none kV doc pm an cdv ct) ⟨us, []⟩ = pure (ps.zip us)) :
    ∃ D : DefAt K mg x st ps, ∀ (s : Shared) (us : List Value), us.length = ps.length → BindsTo s D.fd ⟨us, []⟩ (ps.zip us) :=
  ⟨⟨f, _, fun_mk l c k, (fun_mk l c k).binds hb, PySem.W.mg_of X G a⟩, fun _ us hu => .of_eq (hb _ _ _ _ _ _ us hu)⟩
theorem methAt {K : PySem.W.Frag} {C : Addr} {x q : Str} {st : Stmt} {ps : List Str} {f : Addr} {oc : Value} {od an : Option Addr} {sl : Array (Option Value)} {kV dc pm cd ct : Value}
    (a : PySem.W.findIn K (.ref C) x = some (some (.ref f))) (i : PySem.W.isFn K (.ref f) = true) (l : K.lookup f = some ⟨oc, od, .func (PySem.W.fnOf x q (defArgs st) (defBody st) (defScope st) .none kV dc pm an cd ct), sl⟩) (c : PySem.W.codeIn K cd q = true) (k : PySem.W.keepIn K (.ref f) = true)
    (hb : ∀ (kV doc pm : Value) (an : Option Addr) (cdv ct : Value) (us : List Value), us.length = ps.length → bindArgs (PySem.W.fnOf x q (defArgs st) (defBody st) (defScope st) .none kV doc pm an cdv ct) ⟨us, []⟩ = pure (ps.zip us)) :
    Nonempty (MethAt K C x q st ps) :=
  ⟨⟨f, _, fun_mk l c k, (fun_mk l c k).binds hb, ⟨a, i, k⟩⟩⟩
theorem kit_no {K : PySem.W.Frag} {C : Addr} {T : String} (iC : PySem.W.isClsIn K C = true) (tC : PySem.W.typeIn K (.ref C) = some (.type "type")) (sb : PySem.W.subIn K (.type T) (.ref C) = some false) : PySem.W.kitOne K (.type T) (.ref C) = some false := by
  unfold PySem.W.kitOne
  rw [if_neg (by simp)]
  have e : ((PySem.W.clsIn K C).isSome && PySem.W.typeIn K (.ref C) == some (.type "type")) = true := by
    rw [show (PySem.W.clsIn K C).isSome = true from iC, tC]
    simp
  show (if ((PySem.W.clsIn K C).isSome && PySem.W.typeIn K (.ref C) == some (.type "type")) = true then PySem.W.subIn K (.type T) (.ref C) else none) = some false
  rw [if_pos e]
  exact sb
theorem kit_noR {K : PySem.W.Frag} {C D : Addr} (ne : ¬ D = C) (iC : PySem.W.isClsIn K C = true) (tC : PySem.W.typeIn K (.ref C) = some (.type "type")) (sb : PySem.W.subIn K (.ref D) (.ref C) = some false) : PySem.W.kitOne K (.ref D) (.ref C) = some false := by
  unfold PySem.W.kitOne
  rw [if_neg (by simpa using ne)]
  have e : ((PySem.W.clsIn K C).isSome && PySem.W.typeIn K (.ref C) == some (.type "type")) = true := by
    rw [show (PySem.W.clsIn K C).isSome = true from iC, tC]
    simp
  show (if ((PySem.W.clsIn K C).isSome && PySem.W.typeIn K (.ref C) == some (.type "type")) = true then PySem.W.subIn K (.ref D) (.ref C) else none) = some false
  rw [if_pos e]
  exact sb
theorem kit_me {K : PySem.W.Frag} {C : Addr} : PySem.W.kitOne K (.ref C) (.ref C) = some true := by
  unfold PySem.W.kitOne
  rw [if_pos (by simp)]
theorem bothAll {K : PySem.W.Frag} {h : Heap} {mg : Str → Option Value} (X : K.In h) (G : h.Ns mainGlobals mg) {C : Addr} {CM : Addr} {f0 : Addr} {oc0 kV0 dc0 pm0 cd0 ct0 : Value} {od0 an0 : Option Addr} {sl0 : Array (Option Value)} {f1 : Addr} {oc1 kV1 dc1 pm1 cd1 ct1 : Value} {od1 an1 : Option Addr} {sl1 : Array (Option Value)} {f2 : Addr} {oc2 kV2 dc2 pm2 cd2 ct2 : Value} {od2 an2 : Option Addr} {sl2 : Array (Option Value)} {f3 : Addr} {oc3 kV3 dc3 pm3 cd3 ct3 : Value} {od3 an3 : Option Addr} {sl3 : Array (Option Value)} {f4 : Addr} {oc4 kV4 dc4 pm4 cd4 ct4 : Value} {od4 an4 : Option Addr} {sl4 : Array (Option Value)} {f5 : Addr} {oc5 kV5 dc5 pm5 cd5 ct5 : Value} {od5 an5 : Option Addr} {sl5 : Array (Option Value)} {f6 : Addr} {oc6 kV6 dc6 pm6 cd6 ct6 : Value} {od6 an6 : Option Addr} {sl6 : Array (Option Value)} {mf0 : Addr} {moc0 mkV0 mdc0 mpm0 mcd0 mct0 : Value} {mod0 man0 : Option Addr} {msl0 : Array (Option Value)} {Td Te : Addr} {odT odE : Option Addr} {itT itE : Array Value} {nT nE : Nat} {slT slE : Array (Option Value)} {mf1 : Addr} {moc1 mkV1 mdc1 mpm1 mcd1 mct1 : Value} {mod1 man1 : Option Addr} {msl1 : Array (Option Value)} {mf2 : Addr} {moc2 mkV2 mdc2 mpm2 mcd2 mct2 : Value} {mod2 man2 : Option Addr} {msl2 : Array (Option Value)}
    (aC : PySem.W.nsIn K mainGlobals "Tree" = some (some (.ref C)))
    (pg : PySem.W.plainGet K C Str.empty = true)
    (hd : PySem.W.hasDictIn K C = true)
    (po : PySem.W.plainOver K C = true)
    (sa : PySem.W.findIn K (.ref C) "__setattr__" = some (some (.builtin "object.__setattr__")))
    (mk : PySem.W.makesIn K C = true)
    (kc : PySem.W.keepIn K (.ref C) = true)
    (nq : PySem.W.findIn K (.ref C) "quads" = some none)
    (nf : PySem.W.findIn K (.ref C) "folders" = some none)
    (nk : PySem.W.findIn K (.ref C) "kinds" = some none)
    (np : PySem.W.findIn K (.ref C) "prices" = some none)
    (ne : PySem.W.findIn K (.ref C) "__ne__" = some (some (.builtin "object.__ne__")))
    (ob : PySem.W.subIn K (.ref C) (.type "object") = some true)
    (iC : PySem.W.isClsIn K C = true)
    (tC : PySem.W.typeIn K (.ref C) = some (.type "type"))
    (ha : PySem.W.findIn K (.ref C) "__class__" = some (some (.builtin "object.__class__")))
    (hn : PySem.W.specialIn K (.builtin "object.__class__") "__get__" = some (some (.builtin "getset_descriptor.__get__")))
    (htk : PySem.W.takesIn K (.builtin "object.__class__") = some true)
    (hm : PySem.W.mroIn K C (.type "object") = some true)
    (a0 : PySem.W.findIn K (.ref C) "__init__" = some (some (.ref f0))) (i0 : PySem.W.isFn K (.ref f0) = true) (l0 : K.lookup f0 = some ⟨oc0, od0, .func (PySem.W.fnOf "__init__" "Tree.__init__" (defArgs s_Tree_init) (defBody s_Tree_init) (defScope s_Tree_init) .none kV0 dc0 pm0 an0 cd0 ct0), sl0⟩) (c0 : PySem.W.codeIn K cd0 "Tree.__init__" = true) (k0 : PySem.W.keepIn K (.ref f0) = true)
    (a1 : PySem.W.findIn K (.ref C) "__contains__" = some (some (.ref f1))) (i1 : PySem.W.isFn K (.ref f1) = true) (l1 : K.lookup f1 = some ⟨oc1, od1, .func (PySem.W.fnOf "__contains__" "Tree.__contains__" (defArgs s_Tree_contains) (defBody s_Tree_contains) (defScope s_Tree_contains) .none kV1 dc1 pm1 an1 cd1 ct1), sl1⟩) (c1 : PySem.W.codeIn K cd1 "Tree.__contains__" = true) (k1 : PySem.W.keepIn K (.ref f1) = true)
    (a2 : PySem.W.findIn K (.ref C) "folder" = some (some (.ref f2))) (i2 : PySem.W.isFn K (.ref f2) = true) (l2 : K.lookup f2 = some ⟨oc2, od2, .func (PySem.W.fnOf "folder" "Tree.folder" (defArgs s_Tree_folder) (defBody s_Tree_folder) (defScope s_Tree_folder) .none kV2 dc2 pm2 an2 cd2 ct2), sl2⟩) (c2 : PySem.W.codeIn K cd2 "Tree.folder" = true) (k2 : PySem.W.keepIn K (.ref f2) = true)
    (a3 : PySem.W.findIn K (.ref C) "price" = some (some (.ref f3))) (i3 : PySem.W.isFn K (.ref f3) = true) (l3 : K.lookup f3 = some ⟨oc3, od3, .func (PySem.W.fnOf "price" "Tree.price" (defArgs s_Tree_price) (defBody s_Tree_price) (defScope s_Tree_price) .none kV3 dc3 pm3 an3 cd3 ct3), sl3⟩) (c3 : PySem.W.codeIn K cd3 "Tree.price" = true) (k3 : PySem.W.keepIn K (.ref f3) = true)
    (a4 : PySem.W.findIn K (.ref C) "below" = some (some (.ref f4))) (i4 : PySem.W.isFn K (.ref f4) = true) (l4 : K.lookup f4 = some ⟨oc4, od4, .func (PySem.W.fnOf "below" "Tree.below" (defArgs s_Tree_below) (defBody s_Tree_below) (defScope s_Tree_below) .none kV4 dc4 pm4 an4 cd4 ct4), sl4⟩) (c4 : PySem.W.codeIn K cd4 "Tree.below" = true) (k4 : PySem.W.keepIn K (.ref f4) = true)
    (a5 : PySem.W.findIn K (.ref C) "way" = some (some (.ref f5))) (i5 : PySem.W.isFn K (.ref f5) = true) (l5 : K.lookup f5 = some ⟨oc5, od5, .func (PySem.W.fnOf "way" "Tree.way" (defArgs s_Tree_way) (defBody s_Tree_way) (defScope s_Tree_way) .none kV5 dc5 pm5 an5 cd5 ct5), sl5⟩) (c5 : PySem.W.codeIn K cd5 "Tree.way" = true) (k5 : PySem.W.keepIn K (.ref f5) = true)
    (a6 : PySem.W.findIn K (.ref C) "steps" = some (some (.ref f6))) (i6 : PySem.W.isFn K (.ref f6) = true) (l6 : K.lookup f6 = some ⟨oc6, od6, .func (PySem.W.fnOf "steps" "Tree.steps" (defArgs s_Tree_steps) (defBody s_Tree_steps) (defScope s_Tree_steps) .none kV6 dc6 pm6 an6 cd6 ct6), sl6⟩) (c6 : PySem.W.codeIn K cd6 "Tree.steps" = true) (k6 : PySem.W.keepIn K (.ref f6) = true)
    (maC : PySem.W.nsIn K mainGlobals "Meaning" = some (some (.ref CM)))
    (mpg : PySem.W.plainGet K CM Str.empty = true)
    (mhd : PySem.W.hasDictIn K CM = true)
    (mpo : PySem.W.plainOver K CM = true)
    (msa : PySem.W.findIn K (.ref CM) "__setattr__" = some (some (.builtin "object.__setattr__")))
    (mmk : PySem.W.makesIn K CM = true)
    (mkc : PySem.W.keepIn K (.ref CM) = true)
    (mnt : PySem.W.findIn K (.ref CM) "tree" = some none)
    (mnd : PySem.W.findIn K (.ref CM) "default" = some none)
    (mnu : PySem.W.findIn K (.ref CM) "turns" = some none)
    (mnk : PySem.W.findIn K (.ref CM) "known" = some none)
    (mne : PySem.W.findIn K (.ref CM) "__ne__" = some (some (.builtin "object.__ne__")))
    (mob : PySem.W.subIn K (.ref CM) (.type "object") = some true)
    (miC : PySem.W.isClsIn K CM = true)
    (mtC : PySem.W.typeIn K (.ref CM) = some (.type "type"))
    (mha : PySem.W.findIn K (.ref CM) "__class__" = some (some (.builtin "object.__class__")))
    (mhn : PySem.W.specialIn K (.builtin "object.__class__") "__get__" = some (some (.builtin "getset_descriptor.__get__")))
    (mhtk : PySem.W.takesIn K (.builtin "object.__class__") = some true)
    (mhm : PySem.W.mroIn K CM (.type "object") = some true)
    (ma0 : PySem.W.findIn K (.ref CM) "__init__" = some (some (.ref mf0))) (mi0 : PySem.W.isFn K (.ref mf0) = true) (ml0 : K.lookup mf0 = some ⟨moc0, mod0, .func (PySem.W.fnOf "__init__" "Meaning.__init__" (defArgs s_Meaning_init) (defBody s_Meaning_init) (defScope s_Meaning_init) (.ref Td) mkV0 mdc0 mpm0 man0 mcd0 mct0), msl0⟩) (mc0 : PySem.W.codeIn K mcd0 "Meaning.__init__" = true) (mk0 : PySem.W.keepIn K (.ref mf0) = true)
    (mlT : K.lookup Td = some ⟨.type "tuple", odT, .seq itT nT, slT⟩) (mvT : itT.toList = [.ref Te]) (mlE : K.lookup Te = some ⟨.type "tuple", odE, .seq itE nE, slE⟩) (mvE : itE.toList = [])
    (ma1 : PySem.W.findIn K (.ref CM) "value" = some (some (.ref mf1))) (mi1 : PySem.W.isFn K (.ref mf1) = true) (ml1 : K.lookup mf1 = some ⟨moc1, mod1, .func (PySem.W.fnOf "value" "Meaning.value" (defArgs s_Meaning_value) (defBody s_Meaning_value) (defScope s_Meaning_value) .none mkV1 mdc1 mpm1 man1 mcd1 mct1), msl1⟩) (mc1 : PySem.W.codeIn K mcd1 "Meaning.value" = true) (mk1 : PySem.W.keepIn K (.ref mf1) = true)
    (ma2 : PySem.W.findIn K (.ref CM) "price" = some (some (.ref mf2))) (mi2 : PySem.W.isFn K (.ref mf2) = true) (ml2 : K.lookup mf2 = some ⟨moc2, mod2, .func (PySem.W.fnOf "price" "Meaning.price" (defArgs s_Meaning_price) (defBody s_Meaning_price) (defScope s_Meaning_price) .none mkV2 mdc2 mpm2 man2 mcd2 mct2), msl2⟩) (mc2 : PySem.W.codeIn K mcd2 "Meaning.price" = true) (mk2 : PySem.W.keepIn K (.ref mf2) = true) :
    ∃ C : Addr, TxT K mg C ∧ TxN K C ∧ C8.InsC K C ∧ (∃ (f : Addr) (fd : FuncData), Fun K "__init__" "Tree.__init__" s_Tree_init f fd ∧ Mk K C f ∧ Binds K fd ["self", "rows"] []) ∧ Nonempty (MethAt K C "__contains__" "Tree.__contains__" s_Tree_contains ["self", "x"]) ∧ Nonempty (MethAt K C "folder" "Tree.folder" s_Tree_folder ["self", "box"]) ∧ Nonempty (MethAt K C "price" "Tree.price" s_Tree_price ["self", "box"]) ∧ Nonempty (MethAt K C "below" "Tree.below" s_Tree_below ["self", "box"]) ∧ Nonempty (MethAt K C "way" "Tree.way" s_Tree_way ["self", "box"]) ∧ Nonempty (MethAt K C "steps" "Tree.steps" s_Tree_steps ["self", "one", "other"]) ∧ ∃ CM : Addr, TxM K mg CM ∧ TxN K CM ∧ C8.InsC K CM ∧ (∃ (f : Addr) (fd : FuncData) (Te : Addr), FunD K "__init__" "Meaning.__init__" (defArgs s_Meaning_init) (defBody s_Meaning_init) (defScope s_Meaning_init) [V.ref Te] [] f fd ∧ Mk K CM f ∧ Binds K fd ["self", "tree", "default", "turns"] []) ∧ Nonempty (MethAt K CM "value" "Meaning.value" s_Meaning_value ["self", "box"]) ∧ Nonempty (MethAt K CM "price" "Meaning.price" s_Meaning_price ["self"]) :=
  by
  have FD : FunD K "__init__" "Meaning.__init__" (defArgs s_Meaning_init) (defBody s_Meaning_init) (defScope s_Meaning_init) [V.ref Te] [] mf0 _ := ⟨⟨_, _, _, _, _, _, _, _, _, _, rfl, ml0, mc0, .inr ⟨by simp, Td, _, [.ref Te], nT, rfl, mlT, by rw [← mvT], .cons rfl .nil⟩, .inl rfl⟩, mk0⟩
  obtain ⟨ds2, v2, b2⟩ := FD.binds1 (ps := ["self", "tree", "default", "turns"]) 4 1 (by simp) rfl (fun T kV doc pm an cdv ct us its hu hi => match us, hu, its, hi with | [_, _, _, _], _, [_], _ => ⟨_, rfl, rfl⟩)
  cases v2
  exact ⟨C, ⟨⟨pg, hd, po, sa⟩, nq, nf, nk, np, PySem.W.mg_of X G aC⟩, ⟨ne, ob⟩, ⟨⟨pg, hd, po, sa⟩, ha, hn, htk, hm, kit_me⟩, ⟨f0, _, fun_mk l0 c0 k0, ⟨mk, a0, i0, kc⟩, (fun_mk l0 c0 k0).binds (fun _ _ _ _ _ _ us hl => match us, hl with | [_, _], _ => rfl)⟩, methAt a1 i1 l1 c1 k1 (fun _ _ _ _ _ _ us hl => match us, hl with | [_, _], _ => rfl), methAt a2 i2 l2 c2 k2 (fun _ _ _ _ _ _ us hl => match us, hl with | [_, _], _ => rfl), methAt a3 i3 l3 c3 k3 (fun _ _ _ _ _ _ us hl => match us, hl with | [_, _], _ => rfl), methAt a4 i4 l4 c4 k4 (fun _ _ _ _ _ _ us hl => match us, hl with | [_, _], _ => rfl), methAt a5 i5 l5 c5 k5 (fun _ _ _ _ _ _ us hl => match us, hl with | [_, _], _ => rfl), methAt a6 i6 l6 c6 k6 (fun _ _ _ _ _ _ us hl => match us, hl with | [_, _, _], _ => rfl), CM, ⟨⟨mpg, mhd, mpo, msa⟩, mnt, mnd, mnu, mnk, PySem.W.mg_of X G maC⟩, ⟨mne, mob⟩, ⟨⟨mpg, mhd, mpo, msa⟩, mha, mhn, mhtk, mhm, kit_me⟩, ⟨mf0, _, Te, FD, ⟨mmk, ma0, mi0, mkc⟩, b2⟩, methAt ma1 mi1 ml1 mc1 mk1 (fun _ _ _ _ _ _ us hl => match us, hl with | [_, _], _ => rfl), methAt ma2 mi2 ml2 mc2 mk2 (fun _ _ _ _ _ _ us hl => match us, hl with | [_], _ => rfl)⟩
theorem cheapCls {K : PySem.W.Frag} {h : Heap} {mg : Str → Option Value} (X : K.In h) (G : h.Ns mainGlobals mg) {CH : Addr} {f0 : Addr} {oc0 kV0 dc0 pm0 cd0 ct0 : Value} {od0 an0 : Option Addr} {sl0 : Array (Option Value)}
    (aC : PySem.W.nsIn K mainGlobals "Cheapest" = some (some (.ref CH)))
    (pg : PySem.W.plainGet K CH Str.empty = true)
    (hd : PySem.W.hasDictIn K CH = true)
    (po : PySem.W.plainOver K CH = true)
    (sa : PySem.W.findIn K (.ref CH) "__setattr__" = some (some (.builtin "object.__setattr__")))
    (mk : PySem.W.makesIn K CH = true)
    (kc : PySem.W.keepIn K (.ref CH) = true)
    (nc : PySem.W.findIn K (.ref CH) "cost" = some none)
    (nw : PySem.W.findIn K (.ref CH) "wide" = some none)
    (nn : PySem.W.findIn K (.ref CH) "narrow" = some none)
    (ny : PySem.W.findIn K (.ref CH) "ways" = some none)
    (ne : PySem.W.findIn K (.ref CH) "__ne__" = some (some (.builtin "object.__ne__")))
    (ob : PySem.W.subIn K (.ref CH) (.type "object") = some true)
    (iC : PySem.W.isClsIn K CH = true)
    (tC : PySem.W.typeIn K (.ref CH) = some (.type "type"))
    (ha : PySem.W.findIn K (.ref CH) "__class__" = some (some (.builtin "object.__class__")))
    (hn : PySem.W.specialIn K (.builtin "object.__class__") "__get__" = some (some (.builtin "getset_descriptor.__get__")))
    (htk : PySem.W.takesIn K (.builtin "object.__class__") = some true)
    (hm : PySem.W.mroIn K CH (.type "object") = some true)
    (a0 : PySem.W.findIn K (.ref CH) "__init__" = some (some (.ref f0))) (i0 : PySem.W.isFn K (.ref f0) = true) (l0 : K.lookup f0 = some ⟨oc0, od0, .func (PySem.W.fnOf "__init__" "Cheapest.__init__" (defArgs s_Cheapest_init) (defBody s_Cheapest_init) (defScope s_Cheapest_init) .none kV0 dc0 pm0 an0 cd0 ct0), sl0⟩) (c0 : PySem.W.codeIn K cd0 "Cheapest.__init__" = true) (k0 : PySem.W.keepIn K (.ref f0) = true) :
    ∃ CH : Addr, TxH K mg CH ∧ (∃ (f : Addr) (fd : FuncData), Fun K "__init__" "Cheapest.__init__" s_Cheapest_init f fd ∧ Mk K CH f ∧ Binds K fd ["self", "cost", "wide", "narrow", "ways"] []) :=
  ⟨CH, ⟨⟨pg, hd, po, sa⟩, nc, nw, nn, ny, PySem.W.mg_of X G aC⟩, ⟨f0, _, fun_mk l0 c0 k0, ⟨mk, a0, i0, kc⟩, (fun_mk l0 c0 k0).binds (fun _ _ _ _ _ _ us hl => match us, hl with | [_, _, _, _, _], _ => rfl)⟩⟩
theorem cheapFn {K : PySem.W.Frag} {h : Heap} {mg : Str → Option Value} (X : K.In h) (G : h.Ns mainGlobals mg) {f Td : Addr} {oc kV dc pm cd ct : Value} {od an odT : Option Addr} {sl slT : Array (Option Value)} {itT : Array Value} {nT : Nat}
    (a : PySem.W.nsIn K mainGlobals "cheapest" = some (some (.ref f))) (l : K.lookup f = some ⟨oc, od, .func (PySem.W.fnOf "cheapest" "cheapest" (defArgs s_cheapest) (defBody s_cheapest) (defScope s_cheapest) (.ref Td) kV dc pm an cd ct), sl⟩) (c : PySem.W.codeIn K cd "cheapest" = true) (k : PySem.W.keepIn K (.ref f) = true)
    (hk : kV = .none) (lT : K.lookup Td = some ⟨.type "tuple", odT, .seq itT nT, slT⟩) (vT : itT.toList = [.none]) :
    ∃ (f : Addr) (fd : FuncData), FunD K "cheapest" "cheapest" (defArgs s_cheapest) (defBody s_cheapest) (defScope s_cheapest) [V.non] [] f fd ∧ mg "cheapest" = some (.ref f) ∧ PySem.W.keepIn K (.ref f) = true ∧ Binds K fd ["tree", "wish", "default"] [] := by
  subst hk
  have FD : FunD K "cheapest" "cheapest" (defArgs s_cheapest) (defBody s_cheapest) (defScope s_cheapest) [V.non] [] f _ := ⟨⟨_, _, _, _, _, _, _, _, _, _, rfl, l, c, .inr ⟨by simp, Td, _, [.none], nT, rfl, lT, by rw [← vT], .cons rfl .nil⟩, .inl rfl⟩, k⟩
  obtain ⟨ds2, v2, b2⟩ := FD.binds1 (ps := ["tree", "wish", "default"]) 3 1 (by simp) rfl (fun T kV doc pm an cdv ct us its hu hi => match us, hu, its, hi with | [_, _, _], _, [_], _ => ⟨_, rfl, rfl⟩)
  cases v2
  exact ⟨f, _, FD, PySem.W.mg_of X G a, k, b2⟩
theorem freeAll {K : PySem.W.Frag} {h : Heap} {mg : Str → Option Value} (X : K.In h) (G : h.Ns mainGlobals mg)
    (z0 : PySem.W.nsIn K mainGlobals "len" = some none) (z1 : PySem.W.nsIn K mainGlobals "abs" = some none) (z2 : PySem.W.nsIn K mainGlobals "int" = some none) (z3 : PySem.W.nsIn K mainGlobals "str" = some none) (z4 : PySem.W.nsIn K mainGlobals "bool" = some none) (z5 : PySem.W.nsIn K mainGlobals "list" = some none) (z6 : PySem.W.nsIn K mainGlobals "tuple" = some none) (z7 : PySem.W.nsIn K mainGlobals "dict" = some none) (z8 : PySem.W.nsIn K mainGlobals "range" = some none) (z9 : PySem.W.nsIn K mainGlobals "enumerate" = some none) (z10 : PySem.W.nsIn K mainGlobals "isinstance" = some none) (z11 : PySem.W.nsIn K mainGlobals "all" = some none) (z12 : PySem.W.nsIn K mainGlobals "sum" = some none) (z13 : PySem.W.nsIn K mainGlobals "min" = some none) : TxB mg ∧ mg "sum" = none ∧ mg "min" = none :=
  ⟨⟨PySem.W.mg_none_of X G z0, PySem.W.mg_none_of X G z1, PySem.W.mg_none_of X G z2, PySem.W.mg_none_of X G z3, PySem.W.mg_none_of X G z4, PySem.W.mg_none_of X G z5, PySem.W.mg_none_of X G z6, PySem.W.mg_none_of X G z7, PySem.W.mg_none_of X G z8, PySem.W.mg_none_of X G z9, PySem.W.mg_none_of X G z10, PySem.W.mg_none_of X G z11⟩, PySem.W.mg_none_of X G z12, PySem.W.mg_none_of X G z13⟩
theorem constAll {K : PySem.W.Frag} {h : Heap} {mg : Str → Option Value} (X : K.In h) (G : h.Ns mainGlobals mg) (num : DefAt K mg "is_number" s_is_number ["thing", "least"]) {t1 t2 t3 : Tok} {kt : Addr} {od : Option Addr} {its : Array Value} {n : Nat} {sl : Array (Option Value)}
    (b1 : PySem.W.nsIn K mainGlobals "TOP" = some (some (.str "top" t1))) (b2 : PySem.W.nsIn K mainGlobals "FOLDER" = some (some (.str "folder" t2))) (b3 : PySem.W.nsIn K mainGlobals "LONGEST_NAME" = some (some (.int 8 t3))) (b4 : PySem.W.nsIn K mainGlobals "KINDS" = some (some (.ref kt)))
    (b5 : K.lookup kt = some ⟨.type "tuple", od, .seq its n, sl⟩) (b6 : its.size ≤ sizeLine) (b7 : Vals (kinds3.map V.str) its.toList) : Nonempty (TxC K mg) :=
  ⟨⟨⟨t1, PySem.W.mg_of X G b1⟩, ⟨t2, PySem.W.mg_of X G b2⟩, ⟨t3, PySem.W.mg_of X G b3⟩, kt, PySem.W.mg_of X G b4, num, ⟨_, its, n, b5, rfl, rfl, b6, b7⟩⟩⟩
theorem constU {K : PySem.W.Frag} {h : Heap} {mg : Str → Option Value} (X : K.In h) (G : h.Ns mainGlobals mg) {A : Addr} {od : Option Addr} {its : Array Value} {n : Nat} {sl : Array (Option Value)} (g : PySem.W.nsIn K mainGlobals "VALUES" = some (some (.ref A))) (l : K.lookup A = some ⟨.type "tuple", od, .seq its n, sl⟩) (z : its.size ≤ sizeLine) (v : Vals [V.bl false, .bl true] its.toList) : Nonempty (TxU K mg) :=
  ⟨⟨A, PySem.W.mg_of X G g, fun H => .inr ⟨_, its, n, l, rfl, rfl, z, v⟩⟩⟩
theorem errsAll {K : PySem.W.Frag} {h : Heap} {mg : Str → Option Value} (X : K.In h) (G : h.Ns mainGlobals mg) {CU : Addr} {C0 BE0 f0 : Addr} {nm0 q0 : Str} {N0 : Addr} {bs0 : List Value} {sn0 : List Str} {sub0 : List Value} {ab0 : Bool} {col0 : Option Bool} {dd0 : Option Addr} {ma0 mb0 mc0 md0 mf0 : Option Value} {od0 an0 : Option Addr} {sl0 : Array (Option Value)} {oc0 kV0 dc0 pm0 cd0 ct0 : Value} {C1 BE1 f1 : Addr} {nm1 q1 : Str} {N1 : Addr} {bs1 : List Value} {sn1 : List Str} {sub1 : List Value} {ab1 : Bool} {col1 : Option Bool} {dd1 : Option Addr} {ma1 mb1 mc1 md1 mf1 : Option Value} {od1 an1 : Option Addr} {sl1 : Array (Option Value)} {oc1 kV1 dc1 pm1 cd1 ct1 : Value} {C2 BE2 f2 : Addr} {nm2 q2 : Str} {N2 : Addr} {bs2 : List Value} {sn2 : List Str} {sub2 : List Value} {ab2 : Bool} {col2 : Option Bool} {dd2 : Option Addr} {ma2 mb2 mc2 md2 mf2 : Option Value} {od2 an2 : Option Addr} {sl2 : Array (Option Value)} {oc2 kV2 dc2 pm2 cd2 ct2 : Value} {C3 BE3 f3 : Addr} {nm3 q3 : Str} {N3 : Addr} {bs3 : List Value} {sn3 : List Str} {sub3 : List Value} {ab3 : Bool} {col3 : Option Bool} {dd3 : Option Addr} {ma3 mb3 mc3 md3 mf3 : Option Value} {od3 an3 : Option Addr} {sl3 : Array (Option Value)} {oc3 kV3 dc3 pm3 cd3 ct3 : Value} {C4 BE4 f4 : Addr} {nm4 q4 : Str} {N4 : Addr} {bs4 : List Value} {sn4 : List Str} {sub4 : List Value} {ab4 : Bool} {col4 : Option Bool} {dd4 : Option Addr} {ma4 mb4 mc4 md4 mf4 : Option Value} {od4 an4 : Option Addr} {sl4 : Array (Option Value)} {oc4 kV4 dc4 pm4 cd4 ct4 : Value} {C5 BE5 f5 : Addr} {nm5 q5 : Str} {N5 : Addr} {bs5 : List Value} {sn5 : List Str} {sub5 : List Value} {ab5 : Bool} {col5 : Option Bool} {dd5 : Option Addr} {ma5 mb5 mc5 md5 mf5 : Option Value} {od5 an5 : Option Addr} {sl5 : Array (Option Value)} {oc5 kV5 dc5 pm5 cd5 ct5 : Value}
    (e0aC : PySem.W.nsIn K mainGlobals "Barred" = some (some (.ref C0)))
    (e0xL : K.lookup C0 = some (excClassObj nm0 q0 C0 N0 bs0 [.ref BE0, .type "ValueError", .type "Exception", .type "BaseException", .type "object"] true sn0 sub0 ab0 col0 dd0 ma0 mb0 mc0 md0 mf0 "ValueError.__new__"))
    (e0sa : PySem.W.findIn K (.ref C0) "__setattr__" = some (some (.builtin "object.__setattr__")))
    (e0ga : PySem.W.findIn K (.ref C0) "__getattribute__" = some (some (.builtin "BaseException.__getattribute__")))
    (e0gg : PySem.W.findIn K (.ref C0) "__getattr__" = some none)
    (e0nb : PySem.W.findIn K (.ref C0) "one" = some none)
    (e0a1 : PySem.W.findIn K (.ref C0) "__init__" = some (some (.ref f0)))
    (e0t1 : PySem.W.typeIn K (.ref f0) = some (.type "function"))
    (e0l1 : K.lookup f0 = some ⟨oc0, od0, .func (PySem.W.fnOf "__init__" "Barred.__init__" (defArgs s_Barred_init) (defBody s_Barred_init) (defScope s_Barred_init) .none kV0 dc0 pm0 an0 cd0 ct0), sl0⟩)
    (e0c1 : PySem.W.codeIn K cd0 "Barred.__init__" = true)
    (e0k1 : PySem.W.keepIn K (.ref f0) = true)
    (e0kC : PySem.W.keepIn K (.ref C0) = true)
    (e0eC : PySem.W.subIn K (.ref C0) (.type "BaseException") = some true)
    (e0tC : PySem.W.typeIn K (.ref C0) = some (.type "type"))
    (e0hC : PySem.W.hasDictIn K C0 = true)
    (e0iC : PySem.W.isClsIn K C0 = true)
    (e0sC : PySem.W.subIn K (.ref C0) (.ref C0) = some true)
    (e0x0 : PySem.W.findIn K (.ref C0) "other" = some none)
    (e1aC : PySem.W.nsIn K mainGlobals "BadWish" = some (some (.ref C1)))
    (e1xL : K.lookup C1 = some (excClassObj nm1 q1 C1 N1 bs1 [.ref BE1, .type "ValueError", .type "Exception", .type "BaseException", .type "object"] true sn1 sub1 ab1 col1 dd1 ma1 mb1 mc1 md1 mf1 "ValueError.__new__"))
    (e1sa : PySem.W.findIn K (.ref C1) "__setattr__" = some (some (.builtin "object.__setattr__")))
    (e1ga : PySem.W.findIn K (.ref C1) "__getattribute__" = some (some (.builtin "BaseException.__getattribute__")))
    (e1gg : PySem.W.findIn K (.ref C1) "__getattr__" = some none)
    (e1nb : PySem.W.findIn K (.ref C1) "box" = some none)
    (e1a1 : PySem.W.findIn K (.ref C1) "__init__" = some (some (.ref f1)))
    (e1t1 : PySem.W.typeIn K (.ref f1) = some (.type "function"))
    (e1l1 : K.lookup f1 = some ⟨oc1, od1, .func (PySem.W.fnOf "__init__" "BadWish.__init__" (defArgs s_BadWish_init) (defBody s_BadWish_init) (defScope s_BadWish_init) .none kV1 dc1 pm1 an1 cd1 ct1), sl1⟩)
    (e1c1 : PySem.W.codeIn K cd1 "BadWish.__init__" = true)
    (e1k1 : PySem.W.keepIn K (.ref f1) = true)
    (e1kC : PySem.W.keepIn K (.ref C1) = true)
    (e1eC : PySem.W.subIn K (.ref C1) (.type "BaseException") = some true)
    (e1tC : PySem.W.typeIn K (.ref C1) = some (.type "type"))
    (e1hC : PySem.W.hasDictIn K C1 = true)
    (e1iC : PySem.W.isClsIn K C1 = true)
    (e1sC : PySem.W.subIn K (.ref C1) (.ref C1) = some true)
    (e2aC : PySem.W.nsIn K mainGlobals "BadNumber" = some (some (.ref C2)))
    (e2xL : K.lookup C2 = some (excClassObj nm2 q2 C2 N2 bs2 [.ref BE2, .type "ValueError", .type "Exception", .type "BaseException", .type "object"] true sn2 sub2 ab2 col2 dd2 ma2 mb2 mc2 md2 mf2 "ValueError.__new__"))
    (e2sa : PySem.W.findIn K (.ref C2) "__setattr__" = some (some (.builtin "object.__setattr__")))
    (e2ga : PySem.W.findIn K (.ref C2) "__getattribute__" = some (some (.builtin "BaseException.__getattribute__")))
    (e2gg : PySem.W.findIn K (.ref C2) "__getattr__" = some none)
    (e2nb : PySem.W.findIn K (.ref C2) "number" = some none)
    (e2a1 : PySem.W.findIn K (.ref C2) "__init__" = some (some (.ref f2)))
    (e2t1 : PySem.W.typeIn K (.ref f2) = some (.type "function"))
    (e2l1 : K.lookup f2 = some ⟨oc2, od2, .func (PySem.W.fnOf "__init__" "BadNumber.__init__" (defArgs s_BadNumber_init) (defBody s_BadNumber_init) (defScope s_BadNumber_init) .none kV2 dc2 pm2 an2 cd2 ct2), sl2⟩)
    (e2c1 : PySem.W.codeIn K cd2 "BadNumber.__init__" = true)
    (e2k1 : PySem.W.keepIn K (.ref f2) = true)
    (e2kC : PySem.W.keepIn K (.ref C2) = true)
    (e2eC : PySem.W.subIn K (.ref C2) (.type "BaseException") = some true)
    (e2tC : PySem.W.typeIn K (.ref C2) = some (.type "type"))
    (e2hC : PySem.W.hasDictIn K C2 = true)
    (e2iC : PySem.W.isClsIn K C2 = true)
    (e2sC : PySem.W.subIn K (.ref C2) (.ref C2) = some true)
    (e3aC : PySem.W.nsIn K mainGlobals "TooDear" = some (some (.ref C3)))
    (e3xL : K.lookup C3 = some (excClassObj nm3 q3 C3 N3 bs3 [.ref BE3, .type "ValueError", .type "Exception", .type "BaseException", .type "object"] true sn3 sub3 ab3 col3 dd3 ma3 mb3 mc3 md3 mf3 "ValueError.__new__"))
    (e3sa : PySem.W.findIn K (.ref C3) "__setattr__" = some (some (.builtin "object.__setattr__")))
    (e3ga : PySem.W.findIn K (.ref C3) "__getattribute__" = some (some (.builtin "BaseException.__getattribute__")))
    (e3gg : PySem.W.findIn K (.ref C3) "__getattr__" = some none)
    (e3nb : PySem.W.findIn K (.ref C3) "cost" = some none)
    (e3a1 : PySem.W.findIn K (.ref C3) "__init__" = some (some (.ref f3)))
    (e3t1 : PySem.W.typeIn K (.ref f3) = some (.type "function"))
    (e3l1 : K.lookup f3 = some ⟨oc3, od3, .func (PySem.W.fnOf "__init__" "TooDear.__init__" (defArgs s_TooDear_init) (defBody s_TooDear_init) (defScope s_TooDear_init) .none kV3 dc3 pm3 an3 cd3 ct3), sl3⟩)
    (e3c1 : PySem.W.codeIn K cd3 "TooDear.__init__" = true)
    (e3k1 : PySem.W.keepIn K (.ref f3) = true)
    (e3kC : PySem.W.keepIn K (.ref C3) = true)
    (e3eC : PySem.W.subIn K (.ref C3) (.type "BaseException") = some true)
    (e3tC : PySem.W.typeIn K (.ref C3) = some (.type "type"))
    (e3hC : PySem.W.hasDictIn K C3 = true)
    (e3iC : PySem.W.isClsIn K C3 = true)
    (e3sC : PySem.W.subIn K (.ref C3) (.ref C3) = some true)
    (e4aC : PySem.W.nsIn K mainGlobals "NoBox" = some (some (.ref C4)))
    (e4xL : K.lookup C4 = some (excClassObj nm4 q4 C4 N4 bs4 [.ref BE4, .type "ValueError", .type "Exception", .type "BaseException", .type "object"] true sn4 sub4 ab4 col4 dd4 ma4 mb4 mc4 md4 mf4 "ValueError.__new__"))
    (e4sa : PySem.W.findIn K (.ref C4) "__setattr__" = some (some (.builtin "object.__setattr__")))
    (e4ga : PySem.W.findIn K (.ref C4) "__getattribute__" = some (some (.builtin "BaseException.__getattribute__")))
    (e4gg : PySem.W.findIn K (.ref C4) "__getattr__" = some none)
    (e4nb : PySem.W.findIn K (.ref C4) "box" = some none)
    (e4a1 : PySem.W.findIn K (.ref C4) "__init__" = some (some (.ref f4)))
    (e4t1 : PySem.W.typeIn K (.ref f4) = some (.type "function"))
    (e4l1 : K.lookup f4 = some ⟨oc4, od4, .func (PySem.W.fnOf "__init__" "NoBox.__init__" (defArgs s_NoBox_init) (defBody s_NoBox_init) (defScope s_NoBox_init) .none kV4 dc4 pm4 an4 cd4 ct4), sl4⟩)
    (e4c1 : PySem.W.codeIn K cd4 "NoBox.__init__" = true)
    (e4k1 : PySem.W.keepIn K (.ref f4) = true)
    (e4kC : PySem.W.keepIn K (.ref C4) = true)
    (e4eC : PySem.W.subIn K (.ref C4) (.type "BaseException") = some true)
    (e4tC : PySem.W.typeIn K (.ref C4) = some (.type "type"))
    (e4hC : PySem.W.hasDictIn K C4 = true)
    (e4iC : PySem.W.isClsIn K C4 = true)
    (e4sC : PySem.W.subIn K (.ref C4) (.ref C4) = some true)
    (e5aC : PySem.W.nsIn K mainGlobals "Locked" = some (some (.ref C5)))
    (e5xL : K.lookup C5 = some (excClassObj nm5 q5 C5 N5 bs5 [.ref BE5, .type "ValueError", .type "Exception", .type "BaseException", .type "object"] true sn5 sub5 ab5 col5 dd5 ma5 mb5 mc5 md5 mf5 "ValueError.__new__"))
    (e5sa : PySem.W.findIn K (.ref C5) "__setattr__" = some (some (.builtin "object.__setattr__")))
    (e5ga : PySem.W.findIn K (.ref C5) "__getattribute__" = some (some (.builtin "BaseException.__getattribute__")))
    (e5gg : PySem.W.findIn K (.ref C5) "__getattr__" = some none)
    (e5nb : PySem.W.findIn K (.ref C5) "box" = some none)
    (e5a1 : PySem.W.findIn K (.ref C5) "__init__" = some (some (.ref f5)))
    (e5t1 : PySem.W.typeIn K (.ref f5) = some (.type "function"))
    (e5l1 : K.lookup f5 = some ⟨oc5, od5, .func (PySem.W.fnOf "__init__" "Locked.__init__" (defArgs s_Locked_init) (defBody s_Locked_init) (defScope s_Locked_init) .none kV5 dc5 pm5 an5 cd5 ct5), sl5⟩)
    (e5c1 : PySem.W.codeIn K cd5 "Locked.__init__" = true)
    (e5k1 : PySem.W.keepIn K (.ref f5) = true)
    (e5kC : PySem.W.keepIn K (.ref C5) = true)
    (e5eC : PySem.W.subIn K (.ref C5) (.type "BaseException") = some true)
    (e5tC : PySem.W.typeIn K (.ref C5) = some (.type "type"))
    (e5hC : PySem.W.hasDictIn K C5 = true)
    (e5iC : PySem.W.isClsIn K C5 = true)
    (e5sC : PySem.W.subIn K (.ref C5) (.ref C5) = some true)
    (ua : PySem.W.nsIn K mainGlobals "BadDefault" = some (some (.ref CU))) (uq : PySem.W.excIn K CU veBases "ValueError.__new__" = true) (uk : PySem.W.keepIn K (.ref CU) = true) (ub : PySem.W.subIn K (.ref CU) (.type "BaseException") = some true) (ut : PySem.W.typeIn K (.ref CU) = some (.type "type")) (ui : PySem.W.isClsIn K CU = true) (us : PySem.W.subIn K (.ref CU) (.ref CU) = some true) :
    ∃ CB CW CD CN CT CX CL : Addr, ErrsW K mg CB CW CD CN CT CX ∧ (∃ (f : Addr) (fd : FuncData), PySem.W.findIn K (.ref CB) "__init__" = some (some (.ref f)) ∧ PySem.W.typeIn K (.ref f) = some (.type "function") ∧ Fun K "__init__" "Barred.__init__" s_Barred_init f fd ∧ Binds K fd ["self", "one", "other"] []) ∧ ErrT K mg CL "Locked" "box" ∧ (∃ (f : Addr) (fd : FuncData), PySem.W.findIn K (.ref CL) "__init__" = some (some (.ref f)) ∧ PySem.W.typeIn K (.ref f) = some (.type "function") ∧ Fun K "__init__" "Locked.__init__" s_Locked_init f fd ∧ Binds K fd ["self", "box"] []) :=
  ⟨C0, C1, CU, C2, C3, C4, C5, ⟨(errAll X G e0aC e0xL e0sa e0ga e0gg e0nb e0a1 e0t1 e0l1 e0c1 e0k1 e0kC e0eC e0tC e0hC e0iC e0sC).1, e0x0, (errAll X G e1aC e1xL e1sa e1ga e1gg e1nb e1a1 e1t1 e1l1 e1c1 e1k1 e1kC e1eC e1tC e1hC e1iC e1sC).1, ⟨uq, uk, ub, ut, PySem.W.mg_of X G ua, exm_self ub ui ut us⟩, (errAll X G e2aC e2xL e2sa e2ga e2gg e2nb e2a1 e2t1 e2l1 e2c1 e2k1 e2kC e2eC e2tC e2hC e2iC e2sC).1, (errAll X G e3aC e3xL e3sa e3ga e3gg e3nb e3a1 e3t1 e3l1 e3c1 e3k1 e3kC e3eC e3tC e3hC e3iC e3sC).1, (errAll X G e4aC e4xL e4sa e4ga e4gg e4nb e4a1 e4t1 e4l1 e4c1 e4k1 e4kC e4eC e4tC e4hC e4iC e4sC).1⟩, ⟨f0, _, e0a1, e0t1, fun_mk e0l1 e0c1 e0k1, (fun_mk e0l1 e0c1 e0k1).binds (fun _ _ _ _ _ _ us hl => match us, hl with | [_, _, _], _ => rfl)⟩, (errAll X G e5aC e5xL e5sa e5ga e5gg e5nb e5a1 e5t1 e5l1 e5c1 e5k1 e5kC e5eC e5tC e5hC e5iC e5sC).1, ⟨f5, _, e5a1, e5t1, fun_mk e5l1 e5c1 e5k1, (fun_mk e5l1 e5c1 e5k1).binds (fun _ _ _ _ _ _ us hl => match us, hl with | [_, _], _ => rfl)⟩⟩
theorem defAtC {K : PySem.W.Frag} {h : Heap} {mg : Str → Option Value} (X : K.In h) (G : h.Ns mainGlobals mg) {x : Str} {st : Stmt} {ps : List Str} {f c : Addr} {oc : Value} {od an : Option Addr} {sl : Array (Option Value)} {kV dc pm ct : Value}
    (a : PySem.W.nsIn K mainGlobals x = some (some (.ref f))) (l : K.lookup f = some ⟨oc, od, .func (PySem.W.fnOf x x (defArgs st) (defBody st) (defScope st) .none kV dc pm an (.ref c) ct), sl⟩) (c0 : PySem.W.codeIn K (.ref c) x = true) (k : PySem.W.keepIn K (.ref f) = true)
    (hb : ∀ (kV doc pm : Value) (an : Option Addr) (cdv ct : Value) (us : List Value), us.length = ps.length → bindArgs (PySem.W.fnOf x x (defArgs st) (defBody st) (defScope st) .none kV doc pm an cdv ct) ⟨us, []⟩ = pure (ps.zip us)) :
    ∃ D : DefC K mg x st ps, D.c = c ∧ ∀ (s : Shared) (us : List Value), us.length = ps.length → BindsTo s D.fd ⟨us, []⟩ (ps.zip us) :=
  ⟨⟨f, _, c, ⟨⟨_, _, _, _, _, _, _, _, rfl, l, c0⟩, k⟩, (fun_mk l c0 k).binds hb, PySem.W.mg_of X G a⟩, rfl, fun _ us hu => .of_eq (hb _ _ _ _ _ _ us hu)⟩
theorem codeHdC {K : PySem.W.Frag} {h : Heap} {c P : Addr} {od : Option Addr} {vs : Array Value} {sl : Array (Option Value)} (X : K.In h) (l : K.lookup c = some ⟨.type "code", od, .fields vs, sl⟩) (e : (match (vs[11]? : Option Value) with | some (.ref P') => P' == P | _ => false) = true) (e2 : ((match vs.getD 18 .none with | .str _ _ => true | _ => false) && (match vs.getD 7 .none with | .int _ _ => true | _ => false) &&
      (match vs.getD 9 .none with | .bool _ => true | _ => false) && (match vs.getD 10 .none with | .int _ _ => true | _ => false) && (c != P)) = true) : PySem.W.CodeHd h c P :=
  PySem.W.codeHd_of_K X (by
    unfold PySem.W.codeHdIn
    rw [l]
    simp only [Bool.and_eq_true] at e2 ⊢
    exact ⟨⟨⟨⟨⟨e, e2.1.1.1.1⟩, e2.1.1.1.2⟩, e2.1.1.2⟩, e2.1.2⟩, e2.2⟩)
theorem lamAll {K : PySem.W.Frag} {h : Heap} {mg : Str → Option Value} (X : K.In h) (G : h.Ns mainGlobals mg) {f0 c0 P0 : Addr} {oc0 kV0 dc0 pm0 ct0 : Value} {od0 an0 oe0 : Option Addr} {sl0 sm0 : Array (Option Value)} {vs0 : Array Value}
    (a0 : PySem.W.nsIn K mainGlobals "law" = some (some (.ref f0))) (l0 : K.lookup f0 = some ⟨oc0, od0, .func (PySem.W.fnOf "law" "law" (defArgs s_law) (defBody s_law) (defScope s_law) .none kV0 dc0 pm0 an0 (.ref c0) ct0), sl0⟩) (d0 : PySem.W.codeIn K (.ref c0) "law" = true) (k0 : PySem.W.keepIn K (.ref f0) = true) (m0 : K.lookup c0 = some ⟨.type "code", oe0, .fields vs0, sm0⟩) (p0 : (vs0[11]? : Option Value) = some (.ref P0)) (q0 : ((match vs0.getD 18 .none with | .str _ _ => true | _ => false) && (match vs0.getD 7 .none with | .int _ _ => true | _ => false) && (match vs0.getD 9 .none with | .bool _ => true | _ => false) && (match vs0.getD 10 .none with | .int _ _ => true | _ => false) && (c0 != P0)) = true) (n0 : K.lookup P0 = none) (t0 : h.get? P0 = some { cls := .none, data := .fields #[] }) :
    ∃ (P0 : Addr) (D0 : DefC K mg "law" s_law ["_law_script"]), (PySem.W.CodeHd h D0.c P0 ∧ K.lookup P0 = none ∧ h.get? P0 = some { cls := .none, data := .fields #[] } ∧ ∀ (s : Shared) (us : List Value), us.length = (["_law_script"] : List Str).length → BindsTo s D0.fd ⟨us, []⟩ ((["_law_script"] : List Str).zip us)) := by
  obtain ⟨D0, rfl, hB0⟩ := defAtC (ps := ["_law_script"]) X G a0 l0 d0 k0 (fun _ _ _ _ _ _ us hl => match us, hl with | [_], _ => rfl)
  exact ⟨P0, D0, ⟨codeHdC X m0 (by rw [p0]; simp) q0, n0, t0, hB0⟩⟩
theorem lawAt {l : PySem.W.OpenLaw} {w : World} {K : PySem.W.Frag} {mg : Str → Option Value} {fa : Addr} {fd : FuncData} {h : Heap} {c0 P0 : Addr} (G0 : h.get? P0 = some { cls := .none, data := .fields #[] }) (N0 : K.lookup P0 = none) (C0 : PySem.W.CodeHd h c0 P0) (hb : ∀ (s : Shared) (u : Value), BindsTo s fd ⟨[u], []⟩ [("_law_script", u)])
    (hF : ∀ base : Heap, LamX.TabB base mg c0 P0 → FnOk l.prog w K mg base CX0 14 fa fd ["_law_script"] (spLawT K [(P0, ("law.<locals>.<lambda>" : Str))])) : LamX.LawAtS l w K CX0 14 63 "_law_script" mg fa h := by
  refine ⟨fd, [(c0, P0)], spLawT K [(P0, ("law.<locals>.<lambda>" : Str))], fun p hp => ?_, fun p hp => ?_, fun p hp => ?_, hb, fun H a ns hl _ hH hS => ⟨a, ns, rfl, hS, hl, fun p hp => ?_, fun _ => rfl⟩, fun base _ _ hTB => hF base (hTB _ (.head _))⟩
  · rcases List.mem_singleton.mp hp with rfl
    exact G0
  · rcases List.mem_singleton.mp hp with rfl
    exact N0
  · rcases List.mem_singleton.mp hp with rfl
    exact C0
  · rcases List.mem_singleton.mp hp with rfl
    exact LamX.TabS.nil (hH _ (.head _))
theorem uniq0 {P0 : Addr}  : ∀ p ∈ ([(P0, ("law.<locals>.<lambda>" : Str))] : List (Addr × Str)), p.1 = P0 → p.2 = ("law.<locals>.<lambda>" : Str) := fun p hp e => by
  rcases List.mem_singleton.mp hp with rfl
  exact rfl
theorem walkT {l : PySem.W.OpenLaw} {q : Program} {loose : List Str} {XP : (Str → Option Value) → Heap → Prop} {YP : World → Heap → Prop} {d : DefRec} {K : Params → PySem.W.Frag} (hn : l.most = some 63) (hdf : d.params.defaults = [])
    (hY : ∀ (w : World) (h : Heap), YP w h → (K w.params).In h)
    (F : ∀ (w : World) (mg : Str → Option Value) (fa : Addr) (h : Heap), YP w h → (K w.params).In h → h.Ns mainGlobals mg → mg d.name = some (.ref fa) → LamX.LawAtS l w (K w.params) CX0 14 63 "_law_script" mg fa h) :
    PySem.W.WalkO q loose XP YP l.row.toRowW d [] (fun f vs => PySem.call f vs) :=
  LamX.walk_ofTs (n := 63) (k := 14) (x := "_law_script") (CX := fun _ => CX0) hn (by decide) hdf ⟨rfl, by decide, by decide⟩ hY F (fun _ _ _ _ _ z => z)
end Ts

set_option maxRecDepth 100000
open PySem PySem.W PyProof.Rows in
set_option maxRecDepth 100000 in
set_option maxHeartbeats 0 in
theorem PySem.Challenge.cw_turnsets_k41_whole_ways_holds : PySem.Challenge.rw_turnsets_k41_whole_ways.Holds := by
  w_on; o_law; k_head; (case hw => w_witness2)
  k_fill
  refine Ts.walkT (l := PySem.Challenge.rw_turnsets_k41_whole_ways) rfl rfl (fun w h Y => PySem.W.km_in_of Y) ?F
  case F =>
    intro w mg fa h Y KX G hmg
    obtain ⟨Disname, _⟩ : ∃ D : Ts.DefAt _ mg "is_name" Ts.s_is_name ["thing"], ∀ (s : Shared) (us : List Value), us.length = (["thing"] : List Str).length → BindsTo s D.fd ⟨us, []⟩ ((["thing"] : List Str).zip us) := by
      refine' Ts.defAt KX G ?a ?l ?c ?k ?b
      (case a => k_is)
      (case l => k_is)
      (case c => k_is)
      (case k => k_is)
      (case b => exact fun _ _ _ _ _ _ us hl => match us, hl with | [_], _ => rfl)
    obtain ⟨Disnumber, _⟩ : ∃ D : Ts.DefAt _ mg "is_number" Ts.s_is_number ["thing", "least"], ∀ (s : Shared) (us : List Value), us.length = (["thing", "least"] : List Str).length → BindsTo s D.fd ⟨us, []⟩ ((["thing", "least"] : List Str).zip us) := by
      refine' Ts.defAt KX G ?a ?l ?c ?k ?b
      (case a => k_is)
      (case l => k_is)
      (case c => k_is)
      (case k => k_is)
      (case b => exact fun _ _ _ _ _ _ us hl => match us, hl with | [_, _], _ => rfl)
    obtain ⟨Disprice, _⟩ : ∃ D : Ts.DefAt _ mg "is_price" Ts.s_is_price ["thing"], ∀ (s : Shared) (us : List Value), us.length = (["thing"] : List Str).length → BindsTo s D.fd ⟨us, []⟩ ((["thing"] : List Str).zip us) := by
      refine' Ts.defAt KX G ?a ?l ?c ?k ?b
      (case a => k_is)
      (case l => k_is)
      (case c => k_is)
      (case k => k_is)
      (case b => exact fun _ _ _ _ _ _ us hl => match us, hl with | [_], _ => rfl)
    obtain ⟨Disrow, _⟩ : ∃ D : Ts.DefAt _ mg "is_row" Ts.s_is_row ["thing", "taken", "homes"], ∀ (s : Shared) (us : List Value), us.length = (["thing", "taken", "homes"] : List Str).length → BindsTo s D.fd ⟨us, []⟩ ((["thing", "taken", "homes"] : List Str).zip us) := by
      refine' Ts.defAt KX G ?a ?l ?c ?k ?b
      (case a => k_is)
      (case l => k_is)
      (case c => k_is)
      (case k => k_is)
      (case b => exact fun _ _ _ _ _ _ us hl => match us, hl with | [_, _, _], _ => rfl)
    obtain ⟨Dcheckrows, _⟩ : ∃ D : Ts.DefAt _ mg "check_rows" Ts.s_check_rows ["rows", "names", "folders"], ∀ (s : Shared) (us : List Value), us.length = (["rows", "names", "folders"] : List Str).length → BindsTo s D.fd ⟨us, []⟩ ((["rows", "names", "folders"] : List Str).zip us) := by
      refine' Ts.defAt KX G ?a ?l ?c ?k ?b
      (case a => k_is)
      (case l => k_is)
      (case c => k_is)
      (case k => k_is)
      (case b => exact fun _ _ _ _ _ _ us hl => match us, hl with | [_, _, _], _ => rfl)
    obtain ⟨Dcheckbox, _⟩ : ∃ D : Ts.DefAt _ mg "check_box" Ts.s_check_box ["tree", "thing"], ∀ (s : Shared) (us : List Value), us.length = (["tree", "thing"] : List Str).length → BindsTo s D.fd ⟨us, []⟩ ((["tree", "thing"] : List Str).zip us) := by
      refine' Ts.defAt KX G ?a ?l ?c ?k ?b
      (case a => k_is)
      (case l => k_is)
      (case c => k_is)
      (case k => k_is)
      (case b => exact fun _ _ _ _ _ _ us hl => match us, hl with | [_, _], _ => rfl)
    obtain ⟨Displace, _⟩ : ∃ D : Ts.DefAt _ mg "is_place" Ts.s_is_place ["tree", "thing"], ∀ (s : Shared) (us : List Value), us.length = (["tree", "thing"] : List Str).length → BindsTo s D.fd ⟨us, []⟩ ((["tree", "thing"] : List Str).zip us) := by
      refine' Ts.defAt KX G ?a ?l ?c ?k ?b
      (case a => k_is)
      (case l => k_is)
      (case c => k_is)
      (case k => k_is)
      (case b => exact fun _ _ _ _ _ _ us hl => match us, hl with | [_, _], _ => rfl)
    obtain ⟨Dcheckplace, _⟩ : ∃ D : Ts.DefAt _ mg "check_place" Ts.s_check_place ["tree", "thing"], ∀ (s : Shared) (us : List Value), us.length = (["tree", "thing"] : List Str).length → BindsTo s D.fd ⟨us, []⟩ ((["tree", "thing"] : List Str).zip us) := by
      refine' Ts.defAt KX G ?a ?l ?c ?k ?b
      (case a => k_is)
      (case l => k_is)
      (case c => k_is)
      (case k => k_is)
      (case b => exact fun _ _ _ _ _ _ us hl => match us, hl with | [_, _], _ => rfl)
    obtain ⟨Dcheckturns, _⟩ : ∃ D : Ts.DefAt _ mg "check_turns" Ts.s_check_turns ["tree", "turns"], ∀ (s : Shared) (us : List Value), us.length = (["tree", "turns"] : List Str).length → BindsTo s D.fd ⟨us, []⟩ ((["tree", "turns"] : List Str).zip us) := by
      refine' Ts.defAt KX G ?a ?l ?c ?k ?b
      (case a => k_is)
      (case l => k_is)
      (case c => k_is)
      (case k => k_is)
      (case b => exact fun _ _ _ _ _ _ us hl => match us, hl with | [_, _], _ => rfl)
    obtain ⟨Dvaluesof, _⟩ : ∃ D : Ts.DefAt _ mg "values_of" Ts.s_values_of ["tree", "default", "turns"], ∀ (s : Shared) (us : List Value), us.length = (["tree", "default", "turns"] : List Str).length → BindsTo s D.fd ⟨us, []⟩ ((["tree", "default", "turns"] : List Str).zip us) := by
      refine' Ts.defAt KX G ?a ?l ?c ?k ?b
      (case a => k_is)
      (case l => k_is)
      (case c => k_is)
      (case k => k_is)
      (case b => exact fun _ _ _ _ _ _ us hl => match us, hl with | [_, _, _], _ => rfl)
    obtain ⟨Dwithvalues, _⟩ : ∃ D : Ts.DefAt _ mg "with_values" Ts.s_with_values ["tree", "values"], ∀ (s : Shared) (us : List Value), us.length = (["tree", "values"] : List Str).length → BindsTo s D.fd ⟨us, []⟩ ((["tree", "values"] : List Str).zip us) := by
      refine' Ts.defAt KX G ?a ?l ?c ?k ?b
      (case a => k_is)
      (case l => k_is)
      (case c => k_is)
      (case k => k_is)
      (case b => exact fun _ _ _ _ _ _ us hl => match us, hl with | [_, _], _ => rfl)
    obtain ⟨Dcheckwish, _⟩ : ∃ D : Ts.DefAt _ mg "check_wish" Ts.s_check_wish ["tree", "wish"], ∀ (s : Shared) (us : List Value), us.length = (["tree", "wish"] : List Str).length → BindsTo s D.fd ⟨us, []⟩ ((["tree", "wish"] : List Str).zip us) := by
      refine' Ts.defAt KX G ?a ?l ?c ?k ?b
      (case a => k_is)
      (case l => k_is)
      (case c => k_is)
      (case k => k_is)
      (case b => exact fun _ _ _ _ _ _ us hl => match us, hl with | [_, _], _ => rfl)
    obtain ⟨Dendsof, _⟩ : ∃ D : Ts.DefAt _ mg "ends_of" Ts.s_ends_of ["tree", "wish", "default"], ∀ (s : Shared) (us : List Value), us.length = (["tree", "wish", "default"] : List Str).length → BindsTo s D.fd ⟨us, []⟩ ((["tree", "wish", "default"] : List Str).zip us) := by
      refine' Ts.defAt KX G ?a ?l ?c ?k ?b
      (case a => k_is)
      (case l => k_is)
      (case c => k_is)
      (case k => k_is)
      (case b => exact fun _ _ _ _ _ _ us hl => match us, hl with | [_, _, _], _ => rfl)
    obtain ⟨Dabovelocked, _⟩ : ∃ D : Ts.DefAt _ mg "above_locked" Ts.s_above_locked ["tree", "place"], ∀ (s : Shared) (us : List Value), us.length = (["tree", "place"] : List Str).length → BindsTo s D.fd ⟨us, []⟩ ((["tree", "place"] : List Str).zip us) := by
      refine' Ts.defAt KX G ?a ?l ?c ?k ?b
      (case a => k_is)
      (case l => k_is)
      (case c => k_is)
      (case k => k_is)
      (case b => exact fun _ _ _ _ _ _ us hl => match us, hl with | [_, _], _ => rfl)
    obtain ⟨Dcheckbarred, _⟩ : ∃ D : Ts.DefAt _ mg "check_barred" Ts.s_check_barred ["tree", "ends"], ∀ (s : Shared) (us : List Value), us.length = (["tree", "ends"] : List Str).length → BindsTo s D.fd ⟨us, []⟩ ((["tree", "ends"] : List Str).zip us) := by
      refine' Ts.defAt KX G ?a ?l ?c ?k ?b
      (case a => k_is)
      (case l => k_is)
      (case c => k_is)
      (case k => k_is)
      (case b => exact fun _ _ _ _ _ _ us hl => match us, hl with | [_, _], _ => rfl)
    obtain ⟨Dopenends, _⟩ : ∃ D : Ts.DefAt _ mg "open_ends" Ts.s_open_ends ["tree", "wish", "default"], ∀ (s : Shared) (us : List Value), us.length = (["tree", "wish", "default"] : List Str).length → BindsTo s D.fd ⟨us, []⟩ ((["tree", "wish", "default"] : List Str).zip us) := by
      refine' Ts.defAt KX G ?a ?l ?c ?k ?b
      (case a => k_is)
      (case l => k_is)
      (case c => k_is)
      (case k => k_is)
      (case b => exact fun _ _ _ _ _ _ us hl => match us, hl with | [_, _, _], _ => rfl)
    obtain ⟨Dendless, _⟩ : ∃ D : Ts.DefAt _ mg "endless" Ts.s_endless ["tree"], ∀ (s : Shared) (us : List Value), us.length = (["tree"] : List Str).length → BindsTo s D.fd ⟨us, []⟩ ((["tree"] : List Str).zip us) := by
      refine' Ts.defAt KX G ?a ?l ?c ?k ?b
      (case a => k_is)
      (case l => k_is)
      (case c => k_is)
      (case k => k_is)
      (case b => exact fun _ _ _ _ _ _ us hl => match us, hl with | [_], _ => rfl)
    obtain ⟨Dstepprices, _⟩ : ∃ D : Ts.DefAt _ mg "step_prices" Ts.s_step_prices ["tree"], ∀ (s : Shared) (us : List Value), us.length = (["tree"] : List Str).length → BindsTo s D.fd ⟨us, []⟩ ((["tree"] : List Str).zip us) := by
      refine' Ts.defAt KX G ?a ?l ?c ?k ?b
      (case a => k_is)
      (case l => k_is)
      (case c => k_is)
      (case k => k_is)
      (case b => exact fun _ _ _ _ _ _ us hl => match us, hl with | [_], _ => rfl)
    obtain ⟨Dchoices, _⟩ : ∃ D : Ts.DefAt _ mg "choices" Ts.s_choices ["tree", "ends"], ∀ (s : Shared) (us : List Value), us.length = (["tree", "ends"] : List Str).length → BindsTo s D.fd ⟨us, []⟩ ((["tree", "ends"] : List Str).zip us) := by
      refine' Ts.defAt KX G ?a ?l ?c ?k ?b
      (case a => k_is)
      (case l => k_is)
      (case c => k_is)
      (case k => k_is)
      (case b => exact fun _ _ _ _ _ _ us hl => match us, hl with | [_, _], _ => rfl)
    obtain ⟨Dfavoured, _⟩ : ∃ D : Ts.DefAt _ mg "favoured" Ts.s_favoured ["tree", "prices", "favour"], ∀ (s : Shared) (us : List Value), us.length = (["tree", "prices", "favour"] : List Str).length → BindsTo s D.fd ⟨us, []⟩ ((["tree", "prices", "favour"] : List Str).zip us) := by
      refine' Ts.defAt KX G ?a ?l ?c ?k ?b
      (case a => k_is)
      (case l => k_is)
      (case c => k_is)
      (case k => k_is)
      (case b => exact fun _ _ _ _ _ _ us hl => match us, hl with | [_, _, _], _ => rfl)
    obtain ⟨Dshorter, _⟩ : ∃ D : Ts.DefAt _ mg "shorter" Ts.s_shorter ["parts", "amount"], ∀ (s : Shared) (us : List Value), us.length = (["parts", "amount"] : List Str).length → BindsTo s D.fd ⟨us, []⟩ ((["parts", "amount"] : List Str).zip us) := by
      refine' Ts.defAt KX G ?a ?l ?c ?k ?b
      (case a => k_is)
      (case l => k_is)
      (case c => k_is)
      (case k => k_is)
      (case b => exact fun _ _ _ _ _ _ us hl => match us, hl with | [_, _], _ => rfl)
    obtain ⟨Dpaired, _⟩ : ∃ D : Ts.DefAt _ mg "paired" Ts.s_paired ["ons", "offs"], ∀ (s : Shared) (us : List Value), us.length = (["ons", "offs"] : List Str).length → BindsTo s D.fd ⟨us, []⟩ ((["ons", "offs"] : List Str).zip us) := by
      refine' Ts.defAt KX G ?a ?l ?c ?k ?b
      (case a => k_is)
      (case l => k_is)
      (case c => k_is)
      (case k => k_is)
      (case b => exact fun _ _ _ _ _ _ us hl => match us, hl with | [_, _], _ => rfl)
    obtain ⟨Dletthrough, _⟩ : ∃ D : Ts.DefAt _ mg "let_through" Ts.s_let_through ["parts", "price"], ∀ (s : Shared) (us : List Value), us.length = (["parts", "price"] : List Str).length → BindsTo s D.fd ⟨us, []⟩ ((["parts", "price"] : List Str).zip us) := by
      refine' Ts.defAt KX G ?a ?l ?c ?k ?b
      (case a => k_is)
      (case l => k_is)
      (case c => k_is)
      (case k => k_is)
      (case b => exact fun _ _ _ _ _ _ us hl => match us, hl with | [_, _], _ => rfl)
    obtain ⟨Dwaysbetween, _⟩ : ∃ D : Ts.DefAt _ mg "ways_between" Ts.s_ways_between ["tree", "ends"], ∀ (s : Shared) (us : List Value), us.length = (["tree", "ends"] : List Str).length → BindsTo s D.fd ⟨us, []⟩ ((["tree", "ends"] : List Str).zip us) := by
      refine' Ts.defAt KX G ?a ?l ?c ?k ?b
      (case a => k_is)
      (case l => k_is)
      (case c => k_is)
      (case k => k_is)
      (case b => exact fun _ _ _ _ _ _ us hl => match us, hl with | [_, _], _ => rfl)
    obtain ⟨Disway, _⟩ : ∃ D : Ts.DefAt _ mg "is_way" Ts.s_is_way ["ends", "thing"], ∀ (s : Shared) (us : List Value), us.length = (["ends", "thing"] : List Str).length → BindsTo s D.fd ⟨us, []⟩ ((["ends", "thing"] : List Str).zip us) := by
      refine' Ts.defAt KX G ?a ?l ?c ?k ?b
      (case a => k_is)
      (case l => k_is)
      (case c => k_is)
      (case k => k_is)
      (case b => exact fun _ _ _ _ _ _ us hl => match us, hl with | [_, _], _ => rfl)
    obtain ⟨Disways, _⟩ : ∃ D : Ts.DefAt _ mg "is_ways" Ts.s_is_ways ["tree", "wish", "default", "thing"], ∀ (s : Shared) (us : List Value), us.length = (["tree", "wish", "default", "thing"] : List Str).length → BindsTo s D.fd ⟨us, []⟩ ((["tree", "wish", "default", "thing"] : List Str).zip us) := by
      refine' Ts.defAt KX G ?a ?l ?c ?k ?b
      (case a => k_is)
      (case l => k_is)
      (case c => k_is)
      (case k => k_is)
      (case b => exact fun _ _ _ _ _ _ us hl => match us, hl with | [_, _, _, _], _ => rfl)
    obtain ⟨DLstream, _⟩ : ∃ D : Ts.DefAt _ mg "_law_stream" Ts.s_L_stream ["_law_script", "_law_k"], ∀ (s : Shared) (us : List Value), us.length = (["_law_script", "_law_k"] : List Str).length → BindsTo s D.fd ⟨us, []⟩ ((["_law_script", "_law_k"] : List Str).zip us) := by
      refine' Ts.defAt KX G ?a ?l ?c ?k ?b
      (case a => k_is)
      (case l => k_is)
      (case c => k_is)
      (case k => k_is)
      (case b => exact fun _ _ _ _ _ _ us hl => match us, hl with | [_, _], _ => rfl)
    obtain ⟨DLdraw, _⟩ : ∃ D : Ts.DefAt _ mg "_law_draw" Ts.s_L_draw ["_law_stream_here", "_law_many"], ∀ (s : Shared) (us : List Value), us.length = (["_law_stream_here", "_law_many"] : List Str).length → BindsTo s D.fd ⟨us, []⟩ ((["_law_stream_here", "_law_many"] : List Str).zip us) := by
      refine' Ts.defAt KX G ?a ?l ?c ?k ?b
      (case a => k_is)
      (case l => k_is)
      (case c => k_is)
      (case k => k_is)
      (case b => exact fun _ _ _ _ _ _ us hl => match us, hl with | [_, _], _ => rfl)
    obtain ⟨DLpick, _⟩ : ∃ D : Ts.DefAt _ mg "_law_pick" Ts.s_L_pick ["_law_stream_here", "_law_things"], ∀ (s : Shared) (us : List Value), us.length = (["_law_stream_here", "_law_things"] : List Str).length → BindsTo s D.fd ⟨us, []⟩ ((["_law_stream_here", "_law_things"] : List Str).zip us) := by
      refine' Ts.defAt KX G ?a ?l ?c ?k ?b
      (case a => k_is)
      (case l => k_is)
      (case c => k_is)
      (case k => k_is)
      (case b => exact fun _ _ _ _ _ _ us hl => match us, hl with | [_, _], _ => rfl)
    obtain ⟨DLname, _⟩ : ∃ D : Ts.DefAt _ mg "_law_name" Ts.s_L_name ["_law_stream_here"], ∀ (s : Shared) (us : List Value), us.length = (["_law_stream_here"] : List Str).length → BindsTo s D.fd ⟨us, []⟩ ((["_law_stream_here"] : List Str).zip us) := by
      refine' Ts.defAt KX G ?a ?l ?c ?k ?b
      (case a => k_is)
      (case l => k_is)
      (case c => k_is)
      (case k => k_is)
      (case b => exact fun _ _ _ _ _ _ us hl => match us, hl with | [_], _ => rfl)
    obtain ⟨DLkinds, _⟩ : ∃ D : Ts.DefAt _ mg "_law_kinds" Ts.s_L_kinds [], ∀ (s : Shared) (us : List Value), us.length = ([] : List Str).length → BindsTo s D.fd ⟨us, []⟩ (([] : List Str).zip us) := by
      refine' Ts.defAt KX G ?a ?l ?c ?k ?b
      (case a => k_is)
      (case l => k_is)
      (case c => k_is)
      (case k => k_is)
      (case b => exact fun _ _ _ _ _ _ us hl => match us, hl with | [], _ => rfl)
    obtain ⟨DLprices, _⟩ : ∃ D : Ts.DefAt _ mg "_law_prices" Ts.s_L_prices [], ∀ (s : Shared) (us : List Value), us.length = ([] : List Str).length → BindsTo s D.fd ⟨us, []⟩ (([] : List Str).zip us) := by
      refine' Ts.defAt KX G ?a ?l ?c ?k ?b
      (case a => k_is)
      (case l => k_is)
      (case c => k_is)
      (case k => k_is)
      (case b => exact fun _ _ _ _ _ _ us hl => match us, hl with | [], _ => rfl)
    obtain ⟨DLrows, _⟩ : ∃ D : Ts.DefAt _ mg "_law_rows" Ts.s_L_rows ["_law_stream_here", "_law_many", "_law_kinds_here", "_law_prices_here"], ∀ (s : Shared) (us : List Value), us.length = (["_law_stream_here", "_law_many", "_law_kinds_here", "_law_prices_here"] : List Str).length → BindsTo s D.fd ⟨us, []⟩ ((["_law_stream_here", "_law_many", "_law_kinds_here", "_law_prices_here"] : List Str).zip us) := by
      refine' Ts.defAt KX G ?a ?l ?c ?k ?b
      (case a => k_is)
      (case l => k_is)
      (case c => k_is)
      (case k => k_is)
      (case b => exact fun _ _ _ _ _ _ us hl => match us, hl with | [_, _, _, _], _ => rfl)
    obtain ⟨DLway, _⟩ : ∃ D : Ts.DefAt _ mg "_law_way" Ts.s_L_way ["_law_rows_here", "_law_box"], ∀ (s : Shared) (us : List Value), us.length = (["_law_rows_here", "_law_box"] : List Str).length → BindsTo s D.fd ⟨us, []⟩ ((["_law_rows_here", "_law_box"] : List Str).zip us) := by
      refine' Ts.defAt KX G ?a ?l ?c ?k ?b
      (case a => k_is)
      (case l => k_is)
      (case c => k_is)
      (case k => k_is)
      (case b => exact fun _ _ _ _ _ _ us hl => match us, hl with | [_, _], _ => rfl)
    obtain ⟨DLwith, _⟩ : ∃ D : Ts.DefAt _ mg "_law_with" Ts.s_L_with ["_law_things", "_law_key", "_law_value"], ∀ (s : Shared) (us : List Value), us.length = (["_law_things", "_law_key", "_law_value"] : List Str).length → BindsTo s D.fd ⟨us, []⟩ ((["_law_things", "_law_key", "_law_value"] : List Str).zip us) := by
      refine' Ts.defAt KX G ?a ?l ?c ?k ?b
      (case a => k_is)
      (case l => k_is)
      (case c => k_is)
      (case k => k_is)
      (case b => exact fun _ _ _ _ _ _ us hl => match us, hl with | [_, _, _], _ => rfl)
    obtain ⟨DLwish, _⟩ : ∃ D : Ts.DefAt _ mg "_law_wish" Ts.s_L_wish ["_law_stream_here", "_law_rows_here", "_law_most"], ∀ (s : Shared) (us : List Value), us.length = (["_law_stream_here", "_law_rows_here", "_law_most"] : List Str).length → BindsTo s D.fd ⟨us, []⟩ ((["_law_stream_here", "_law_rows_here", "_law_most"] : List Str).zip us) := by
      refine' Ts.defAt KX G ?a ?l ?c ?k ?b
      (case a => k_is)
      (case l => k_is)
      (case c => k_is)
      (case k => k_is)
      (case b => exact fun _ _ _ _ _ _ us hl => match us, hl with | [_, _, _], _ => rfl)
    obtain ⟨DLpins, _⟩ : ∃ D : Ts.DefAt _ mg "_law_pins" Ts.s_L_pins ["_law_wish_here", "_law_default_here"], ∀ (s : Shared) (us : List Value), us.length = (["_law_wish_here", "_law_default_here"] : List Str).length → BindsTo s D.fd ⟨us, []⟩ ((["_law_wish_here", "_law_default_here"] : List Str).zip us) := by
      refine' Ts.defAt KX G ?a ?l ?c ?k ?b
      (case a => k_is)
      (case l => k_is)
      (case c => k_is)
      (case k => k_is)
      (case b => exact fun _ _ _ _ _ _ us hl => match us, hl with | [_, _], _ => rfl)
    obtain ⟨DLwaysteps, _⟩ : ∃ D : Ts.DefAt _ mg "_law_way_steps" Ts.s_L_way_steps ["_law_rows_here", "_law_one", "_law_other"], ∀ (s : Shared) (us : List Value), us.length = (["_law_rows_here", "_law_one", "_law_other"] : List Str).length → BindsTo s D.fd ⟨us, []⟩ ((["_law_rows_here", "_law_one", "_law_other"] : List Str).zip us) := by
      refine' Ts.defAt KX G ?a ?l ?c ?k ?b
      (case a => k_is)
      (case l => k_is)
      (case c => k_is)
      (case k => k_is)
      (case b => exact fun _ _ _ _ _ _ us hl => match us, hl with | [_, _, _], _ => rfl)
    obtain ⟨DLisinteger, _⟩ : ∃ D : Ts.DefAt _ mg "_law_is_integer" Ts.s_L_is_integer ["_law_thing"], ∀ (s : Shared) (us : List Value), us.length = (["_law_thing"] : List Str).length → BindsTo s D.fd ⟨us, []⟩ ((["_law_thing"] : List Str).zip us) := by
      refine' Ts.defAt KX G ?a ?l ?c ?k ?b
      (case a => k_is)
      (case l => k_is)
      (case c => k_is)
      (case k => k_is)
      (case b => exact fun _ _ _ _ _ _ us hl => match us, hl with | [_], _ => rfl)
    obtain ⟨DListriple, _⟩ : ∃ D : Ts.DefAt _ mg "_law_is_triple" Ts.s_L_is_triple ["_law_thing", "_law_pins_here"], ∀ (s : Shared) (us : List Value), us.length = (["_law_thing", "_law_pins_here"] : List Str).length → BindsTo s D.fd ⟨us, []⟩ ((["_law_thing", "_law_pins_here"] : List Str).zip us) := by
      refine' Ts.defAt KX G ?a ?l ?c ?k ?b
      (case a => k_is)
      (case l => k_is)
      (case c => k_is)
      (case k => k_is)
      (case b => exact fun _ _ _ _ _ _ us hl => match us, hl with | [_, _], _ => rfl)
    obtain ⟨DLareways, _⟩ : ∃ D : Ts.DefAt _ mg "_law_are_ways" Ts.s_L_are_ways ["_law_rows_here", "_law_pins_here", "_law_thing"], ∀ (s : Shared) (us : List Value), us.length = (["_law_rows_here", "_law_pins_here", "_law_thing"] : List Str).length → BindsTo s D.fd ⟨us, []⟩ ((["_law_rows_here", "_law_pins_here", "_law_thing"] : List Str).zip us) := by
      refine' Ts.defAt KX G ?a ?l ?c ?k ?b
      (case a => k_is)
      (case l => k_is)
      (case c => k_is)
      (case k => k_is)
      (case b => exact fun _ _ _ _ _ _ us hl => match us, hl with | [_, _, _], _ => rfl)
    obtain ⟨DLisbarred, _⟩ : ∃ D : Ts.DefAt _ mg "_law_is_barred" Ts.s_L_is_barred ["_law_rows_here", "_law_wish_here", "_law_default_here", "_law_pair"], ∀ (s : Shared) (us : List Value), us.length = (["_law_rows_here", "_law_wish_here", "_law_default_here", "_law_pair"] : List Str).length → BindsTo s D.fd ⟨us, []⟩ ((["_law_rows_here", "_law_wish_here", "_law_default_here", "_law_pair"] : List Str).zip us) := by
      refine' Ts.defAt KX G ?a ?l ?c ?k ?b
      (case a => k_is)
      (case l => k_is)
      (case c => k_is)
      (case k => k_is)
      (case b => exact fun _ _ _ _ _ _ us hl => match us, hl with | [_, _, _, _], _ => rfl)
    obtain ⟨DLbarredright, _⟩ : ∃ D : Ts.DefAt _ mg "_law_barred_right" Ts.s_L_barred_right ["_law_rows_here", "_law_wish_here", "_law_default_here", "_law_found"], ∀ (s : Shared) (us : List Value), us.length = (["_law_rows_here", "_law_wish_here", "_law_default_here", "_law_found"] : List Str).length → BindsTo s D.fd ⟨us, []⟩ ((["_law_rows_here", "_law_wish_here", "_law_default_here", "_law_found"] : List Str).zip us) := by
      refine' Ts.defAt KX G ?a ?l ?c ?k ?b
      (case a => k_is)
      (case l => k_is)
      (case c => k_is)
      (case k => k_is)
      (case b => exact fun _ _ _ _ _ _ us hl => match us, hl with | [_, _, _, _], _ => rfl)
    obtain ⟨DLasked, _⟩ : ∃ D : Ts.DefAt _ mg "_law_asked" Ts.s_L_asked ["_law_ask"], ∀ (s : Shared) (us : List Value), us.length = (["_law_ask"] : List Str).length → BindsTo s D.fd ⟨us, []⟩ ((["_law_ask"] : List Str).zip us) := by
      refine' Ts.defAt KX G ?a ?l ?c ?k ?b
      (case a => k_is)
      (case l => k_is)
      (case c => k_is)
      (case k => k_is)
      (case b => exact fun _ _ _ _ _ _ us hl => match us, hl with | [_], _ => rfl)
    obtain ⟨DLdefault, _⟩ : ∃ D : Ts.DefAt _ mg "_law_default" Ts.s_L_default ["_law_stream_here"], ∀ (s : Shared) (us : List Value), us.length = (["_law_stream_here"] : List Str).length → BindsTo s D.fd ⟨us, []⟩ ((["_law_stream_here"] : List Str).zip us) := by
      refine' Ts.defAt KX G ?a ?l ?c ?k ?b
      (case a => k_is)
      (case l => k_is)
      (case c => k_is)
      (case k => k_is)
      (case b => exact fun _ _ _ _ _ _ us hl => match us, hl with | [_], _ => rfl)
    obtain ⟨DLisshown, _⟩ : ∃ D : Ts.DefAt _ mg "_law_is_shown" Ts.s_L_is_shown ["_law_rows_here", "_law_tree", "_law_wish_here", "_law_default_here", "_law_found"], ∀ (s : Shared) (us : List Value), us.length = (["_law_rows_here", "_law_tree", "_law_wish_here", "_law_default_here", "_law_found"] : List Str).length → BindsTo s D.fd ⟨us, []⟩ ((["_law_rows_here", "_law_tree", "_law_wish_here", "_law_default_here", "_law_found"] : List Str).zip us) := by
      refine' Ts.defAt KX G ?a ?l ?c ?k ?b
      (case a => k_is)
      (case l => k_is)
      (case c => k_is)
      (case k => k_is)
      (case b => exact fun _ _ _ _ _ _ us hl => match us, hl with | [_, _, _, _, _], _ => rfl)
    obtain ⟨B, hSum, hMin⟩ := by
      refine' Ts.freeAll KX G ?z0 ?z1 ?z2 ?z3 ?z4 ?z5 ?z6 ?z7 ?z8 ?z9 ?z10 ?z11 ?z12 ?z13
      (case z0 => k_is)
      (case z1 => k_is)
      (case z2 => k_is)
      (case z3 => k_is)
      (case z4 => k_is)
      (case z5 => k_is)
      (case z6 => k_is)
      (case z7 => k_is)
      (case z8 => k_is)
      (case z9 => k_is)
      (case z10 => k_is)
      (case z11 => k_is)
      (case z12 => k_is)
      (case z13 => k_is)
    obtain ⟨TC⟩ := by
      refine' Ts.constAll KX G Disnumber ?b1 ?b2 ?b3 ?b4 ?b5 ?b6 ?b7
      (case b1 => k_is)
      (case b2 => k_is)
      (case b3 => k_is)
      (case b4 => k_is)
      (case b5 => k_is)
      (case b6 => decide)
      (case b7 => exact .cons ⟨_, rfl⟩ (.cons ⟨_, rfl⟩ (.cons ⟨_, rfl⟩ .nil)))
    obtain ⟨TU⟩ := by
      refine' Ts.constU KX G ?Yg ?Yl ?Yz ?Yv
      (case Yg => k_is)
      (case Yl => k_is)
      (case Yz => decide)
      (case Yv => exact .cons rfl (.cons rfl .nil))
    obtain ⟨CB, CW, CD, CN, CT, CX_, CL, TE, ⟨f_Barred, fd_Barred, i_Barred, t_Barred, F_Barred, b_Barred⟩, TL, ⟨f_Locked, fd_Locked, i_Locked, t_Locked, F_Locked, b_Locked⟩⟩ := by
      refine' Ts.errsAll KX G ?Ze0aC ?Ze0xL ?Ze0sa ?Ze0ga ?Ze0gg ?Ze0nb ?Ze0a1 ?Ze0t1 ?Ze0l1 ?Ze0c1 ?Ze0k1 ?Ze0kC ?Ze0eC ?Ze0tC ?Ze0hC ?Ze0iC ?Ze0sC ?Ze0x0 ?Ze1aC ?Ze1xL ?Ze1sa ?Ze1ga ?Ze1gg ?Ze1nb ?Ze1a1 ?Ze1t1 ?Ze1l1 ?Ze1c1 ?Ze1k1 ?Ze1kC ?Ze1eC ?Ze1tC ?Ze1hC ?Ze1iC ?Ze1sC ?Ze2aC ?Ze2xL ?Ze2sa ?Ze2ga ?Ze2gg ?Ze2nb ?Ze2a1 ?Ze2t1 ?Ze2l1 ?Ze2c1 ?Ze2k1 ?Ze2kC ?Ze2eC ?Ze2tC ?Ze2hC ?Ze2iC ?Ze2sC ?Ze3aC ?Ze3xL ?Ze3sa ?Ze3ga ?Ze3gg ?Ze3nb ?Ze3a1 ?Ze3t1 ?Ze3l1 ?Ze3c1 ?Ze3k1 ?Ze3kC ?Ze3eC ?Ze3tC ?Ze3hC ?Ze3iC ?Ze3sC ?Ze4aC ?Ze4xL ?Ze4sa ?Ze4ga ?Ze4gg ?Ze4nb ?Ze4a1 ?Ze4t1 ?Ze4l1 ?Ze4c1 ?Ze4k1 ?Ze4kC ?Ze4eC ?Ze4tC ?Ze4hC ?Ze4iC ?Ze4sC ?Ze5aC ?Ze5xL ?Ze5sa ?Ze5ga ?Ze5gg ?Ze5nb ?Ze5a1 ?Ze5t1 ?Ze5l1 ?Ze5c1 ?Ze5k1 ?Ze5kC ?Ze5eC ?Ze5tC ?Ze5hC ?Ze5iC ?Ze5sC ?Zua ?Zuq ?Zuk ?Zub ?Zut ?Zui ?Zus
      (case Ze0aC => k_is)
      (case Ze0xL => k_is)
      (case Ze0sa => k_is)
      (case Ze0ga => k_is)
      (case Ze0gg => k_is)
      (case Ze0nb => k_is)
      (case Ze0a1 => k_is)
      (case Ze0t1 => k_is)
      (case Ze0l1 => k_is)
      (case Ze0c1 => k_is)
      (case Ze0k1 => k_is)
      (case Ze0kC => k_is)
      (case Ze0eC => k_is)
      (case Ze0tC => k_is)
      (case Ze0hC => k_is)
      (case Ze0iC => k_is)
      (case Ze0sC => first | rfl | k_is)
      (case Ze0x0 => k_is)
      (case Ze1aC => k_is)
      (case Ze1xL => k_is)
      (case Ze1sa => k_is)
      (case Ze1ga => k_is)
      (case Ze1gg => k_is)
      (case Ze1nb => k_is)
      (case Ze1a1 => k_is)
      (case Ze1t1 => k_is)
      (case Ze1l1 => k_is)
      (case Ze1c1 => k_is)
      (case Ze1k1 => k_is)
      (case Ze1kC => k_is)
      (case Ze1eC => k_is)
      (case Ze1tC => k_is)
      (case Ze1hC => k_is)
      (case Ze1iC => k_is)
      (case Ze1sC => first | rfl | k_is)
      (case Ze2aC => k_is)
      (case Ze2xL => k_is)
      (case Ze2sa => k_is)
      (case Ze2ga => k_is)
      (case Ze2gg => k_is)
      (case Ze2nb => k_is)
      (case Ze2a1 => k_is)
      (case Ze2t1 => k_is)
      (case Ze2l1 => k_is)
      (case Ze2c1 => k_is)
      (case Ze2k1 => k_is)
      (case Ze2kC => k_is)
      (case Ze2eC => k_is)
      (case Ze2tC => k_is)
      (case Ze2hC => k_is)
      (case Ze2iC => k_is)
      (case Ze2sC => first | rfl | k_is)
      (case Ze3aC => k_is)
      (case Ze3xL => k_is)
      (case Ze3sa => k_is)
      (case Ze3ga => k_is)
      (case Ze3gg => k_is)
      (case Ze3nb => k_is)
      (case Ze3a1 => k_is)
      (case Ze3t1 => k_is)
      (case Ze3l1 => k_is)
      (case Ze3c1 => k_is)
      (case Ze3k1 => k_is)
      (case Ze3kC => k_is)
      (case Ze3eC => k_is)
      (case Ze3tC => k_is)
      (case Ze3hC => k_is)
      (case Ze3iC => k_is)
      (case Ze3sC => first | rfl | k_is)
      (case Ze4aC => k_is)
      (case Ze4xL => k_is)
      (case Ze4sa => k_is)
      (case Ze4ga => k_is)
      (case Ze4gg => k_is)
      (case Ze4nb => k_is)
      (case Ze4a1 => k_is)
      (case Ze4t1 => k_is)
      (case Ze4l1 => k_is)
      (case Ze4c1 => k_is)
      (case Ze4k1 => k_is)
      (case Ze4kC => k_is)
      (case Ze4eC => k_is)
      (case Ze4tC => k_is)
      (case Ze4hC => k_is)
      (case Ze4iC => k_is)
      (case Ze4sC => first | rfl | k_is)
      (case Ze5aC => k_is)
      (case Ze5xL => k_is)
      (case Ze5sa => k_is)
      (case Ze5ga => k_is)
      (case Ze5gg => k_is)
      (case Ze5nb => k_is)
      (case Ze5a1 => k_is)
      (case Ze5t1 => k_is)
      (case Ze5l1 => k_is)
      (case Ze5c1 => k_is)
      (case Ze5k1 => k_is)
      (case Ze5kC => k_is)
      (case Ze5eC => k_is)
      (case Ze5tC => k_is)
      (case Ze5hC => k_is)
      (case Ze5iC => k_is)
      (case Ze5sC => first | rfl | k_is)
      (case Zua => k_is)
      (case Zuq => k_exc)
      (case Zuk => k_is)
      (case Zub => k_is)
      (case Zut => k_is)
      (case Zui => k_is)
      (case Zus => first | rfl | k_is)
    have hT8 := PySem.W.km_tabs_of Y
    obtain ⟨P0, Dlaw, ⟨hC0, hN0, hG0, hB0⟩⟩ := by
      refine' Ts.lamAll KX G ?La0 ?Ll0 ?Ld0 ?Lk0 ?Lm0 ?Lp0 ?Lq0 ?Ln0 ?Lt0
      (case La0 => k_is)
      (case Ll0 => k_is)
      (case Ld0 => k_is)
      (case Lk0 => k_is)
      (case Lm0 => k_is)
      (case Lp0 => rfl)
      (case Lq0 => first | rfl | decide +kernel)
      (case Ln0 => first | kernel_rfl | rfl | decide +kernel)
      (case Lt0 => exact hT8 _ (by k_mem))
    obtain ⟨C, T, N, I, ⟨fI, fdI, FI, MT, bI⟩, ⟨M_contains⟩, ⟨M_folder⟩, ⟨M_price⟩, ⟨M_below⟩, ⟨M_way⟩, ⟨M_steps⟩, CM, M, NM, IM, ⟨fM, fdM, Te, FM, MM, bM⟩, ⟨L_value⟩, ⟨L_price⟩⟩ := by
      refine' Ts.bothAll KX G ?aC ?pg ?hd ?po ?sa ?mk ?kc ?nq ?nf ?nk ?np ?ne ?ob ?iC ?tC ?ha ?hn ?htk ?hm ?a0 ?i0 ?l0 ?c0 ?k0 ?a1 ?i1 ?l1 ?c1 ?k1 ?a2 ?i2 ?l2 ?c2 ?k2 ?a3 ?i3 ?l3 ?c3 ?k3 ?a4 ?i4 ?l4 ?c4 ?k4 ?a5 ?i5 ?l5 ?c5 ?k5 ?a6 ?i6 ?l6 ?c6 ?k6 ?maC ?mpg ?mhd ?mpo ?msa ?mmk ?mkc ?mnt ?mnd ?mnu ?mnk ?mne ?mob ?miC ?mtC ?mha ?mhn ?mhtk ?mhm ?ma0 ?mi0 ?ml0 ?mc0 ?mk0 ?mlT ?mvT ?mlE ?mvE ?ma1 ?mi1 ?ml1 ?mc1 ?mk1 ?ma2 ?mi2 ?ml2 ?mc2 ?mk2
      (case aC => k_is)
      (case pg => k_is)
      (case hd => k_is)
      (case po => k_is)
      (case sa => k_is)
      (case mk => k_is)
      (case kc => k_is)
      (case nq => k_is)
      (case nf => k_is)
      (case nk => k_is)
      (case np => k_is)
      (case ne => k_is)
      (case ob => k_is)
      (case iC => k_is)
      (case tC => k_is)
      (case ha => k_is)
      (case hn => k_is)
      (case htk => k_is)
      (case hm => k_is)
      (case a0 => k_is)
      (case i0 => k_is)
      (case l0 => k_is)
      (case c0 => k_is)
      (case k0 => k_is)
      (case a1 => k_is)
      (case i1 => k_is)
      (case l1 => k_is)
      (case c1 => k_is)
      (case k1 => k_is)
      (case a2 => k_is)
      (case i2 => k_is)
      (case l2 => k_is)
      (case c2 => k_is)
      (case k2 => k_is)
      (case a3 => k_is)
      (case i3 => k_is)
      (case l3 => k_is)
      (case c3 => k_is)
      (case k3 => k_is)
      (case a4 => k_is)
      (case i4 => k_is)
      (case l4 => k_is)
      (case c4 => k_is)
      (case k4 => k_is)
      (case a5 => k_is)
      (case i5 => k_is)
      (case l5 => k_is)
      (case c5 => k_is)
      (case k5 => k_is)
      (case a6 => k_is)
      (case i6 => k_is)
      (case l6 => k_is)
      (case c6 => k_is)
      (case k6 => k_is)
      (case maC => k_is)
      (case mpg => k_is)
      (case mhd => k_is)
      (case mpo => k_is)
      (case msa => k_is)
      (case mmk => k_is)
      (case mkc => k_is)
      (case mnt => k_is)
      (case mnd => k_is)
      (case mnu => k_is)
      (case mnk => k_is)
      (case mne => k_is)
      (case mob => k_is)
      (case miC => k_is)
      (case mtC => k_is)
      (case mha => k_is)
      (case mhn => k_is)
      (case mhtk => k_is)
      (case mhm => k_is)
      (case ma0 => k_is)
      (case mi0 => k_is)
      (case ml0 => k_is)
      (case mc0 => k_is)
      (case mk0 => k_is)
      (case mlT => k_is)
      (case mvT => rfl)
      (case mlE => k_is)
      (case mvE => rfl)
      (case ma1 => k_is)
      (case mi1 => k_is)
      (case ml1 => k_is)
      (case mc1 => k_is)
      (case mk1 => k_is)
      (case ma2 => k_is)
      (case mi2 => k_is)
      (case ml2 => k_is)
      (case mc2 => k_is)
      (case mk2 => k_is)
    obtain ⟨CH, XH, ⟨fH, fdH, FH, MH, bH⟩⟩ := by
      refine' Ts.cheapCls KX G ?WaC ?Wpg ?Whd ?Wpo ?Wsa ?Wmk ?Wkc ?Wnc ?Wnw ?Wnn ?Wny ?Wne ?Wob ?WiC ?WtC ?Wha ?Whn ?Whtk ?Whm ?Wa0 ?Wi0 ?Wl0 ?Wc0 ?Wk0
      (case WaC => k_is)
      (case Wpg => k_is)
      (case Whd => k_is)
      (case Wpo => k_is)
      (case Wsa => k_is)
      (case Wmk => k_is)
      (case Wkc => k_is)
      (case Wnc => k_is)
      (case Wnw => k_is)
      (case Wnn => k_is)
      (case Wny => k_is)
      (case Wne => k_is)
      (case Wob => k_is)
      (case WiC => k_is)
      (case WtC => k_is)
      (case Wha => k_is)
      (case Whn => k_is)
      (case Whtk => k_is)
      (case Whm => k_is)
      (case Wa0 => k_is)
      (case Wi0 => k_is)
      (case Wl0 => k_is)
      (case Wc0 => k_is)
      (case Wk0 => k_is)
    obtain ⟨fk, fdk, Fk, gk, kk, bk⟩ := by
      refine' Ts.cheapFn KX G ?Va ?Vl ?Vc ?Vk ?Vhk ?VlT ?VvT
      (case Va => k_is)
      (case Vl => k_is)
      (case Vc => k_is)
      (case Vk => k_is)
      (case Vhk => rfl)
      (case VlT => k_is)
      (case VvT => rfl)
    have e := hmg.symm.trans Dlaw.g
    cases e
    refine Ts.lawAt hG0 hN0 hC0 (fun s v => hB0 s [v] rfl) fun base TB0 => ?_
    have Gc := Ts.ok_check_rows (P := PySem.Challenge.rw_turnsets_k41_whole_ways.prog) (w := w) (base := base) Dcheckrows Disrow Disname Disprice B TC
    have GT := Ts.ok_Tree_init FI Dcheckrows Gc B TC T
    have Gb := Ts.ok_check_box (P := PySem.Challenge.rw_turnsets_k41_whole_ways.prog) (w := w) (base := base) Dcheckbox M_contains B T
    have Gip := Ts.ok_is_place (P := PySem.Challenge.rw_turnsets_k41_whole_ways.prog) (w := w) (base := base) Displace M_contains B TC T
    have Gpl := Ts.ok_check_place Dcheckplace Displace Gip
    have GF := Ts.ok_Tree_folder M_folder.F Dcheckbox Gb T
    have GP := Ts.ok_Tree_price M_price.F Dcheckbox Gb T
    have GB := Ts.ok_Tree_below M_below.F Dcheckplace Gpl B T
    have GW := Ts.ok_Tree_way M_way.F Dcheckplace Gpl TC T
    have GS := Ts.ok_Tree_steps M_steps.F T M_way GW
    have GIL := Ts.ok_Locked_init (P := PySem.Challenge.rw_turnsets_k41_whole_ways.prog) (w := w) (base := base) (mg := mg) F_Locked TL.O TL.nb
    have GIB := Ts.ok_Barred_init (P := PySem.Challenge.rw_turnsets_k41_whole_ways.prog) (w := w) (base := base) (mg := mg) F_Barred TE.B.O TE.B.nb TE.o
    have Gvo := Ts.ok_values_of Dvaluesof TC T M_below GB M_folder GF
    have Xl := Ts.ok_check_turnsX Dcheckturns Dcheckbox Gb T M_price GP TL i_Locked t_Locked GIL b_Locked
    have XM := Ts.ok_M_initX (CM := CM) FM B TC T M Dcheckturns Xl Dvaluesof Gvo M_below GB
    have GM := Ts.calm_init XM
    have Gwv := Ts.ok_with Dwithvalues TC T M MM bM GM M_below GB M_folder GF
    have Gcw := Ts.ok_check_wish Dcheckwish B Displace Gip
    have Geo := Ts.ok_ends_of Dendsof B TC Dcheckwish Gcw
    have Gab := Ts.ok_above Dabovelocked TC T M_price GP M_folder GF
    have Xba := Ts.ok_barred Dcheckbarred Dabovelocked Gab TE.B i_Barred t_Barred GIB b_Barred
    have Xoe := Ts.ok_open_ends Dopenends TC Dendsof Geo Dcheckbarred Xba TE.B i_Barred t_Barred GIB b_Barred
    have Gen := Ts.ok_endless Dendless TC T hSum M_below GB M_price GP
    have Gst := Ts.ok_step_prices Dstepprices TC T Dendless Gen M_below GB M_price GP
    have Gch := Ts.ok_choices Dchoices TC T TU hSum hMin Dendless Gen Dstepprices Gst M_below GB M_folder GF
    have Gfa := Ts.ok_fav Dfavoured TC T Dstepprices Gst Dwithvalues Gwv M_below GB M_folder GF
    have Gsr := Ts.ok_shorter (P := PySem.Challenge.rw_turnsets_k41_whole_ways.prog) (w := w) (base := base) Dshorter
    have Gpd := Ts.ok_paired Dpaired hMin Dshorter Gsr
    have Glt := Ts.ok_let (P := PySem.Challenge.rw_turnsets_k41_whole_ways.prog) (w := w) (base := base) Dletthrough hMin
    have Gwb := Ts.ok_ways Dwaysbetween TC T TU Dendless Gen Dstepprices Gst Dpaired Gpd Dletthrough Glt M_below GB M_folder GF
    have GHi := Ts.ok_Ch_init (P := PySem.Challenge.rw_turnsets_k41_whole_ways.prog) (w := w) (base := base) (mg := mg) FH XH
    have Xch := Ts.ok_cheapest Fk TC hMin Dopenends Xoe Dchoices Gch Dfavoured Gfa Dwaysbetween Gwb XH MH bH GHi
    have Giy := Ts.ok_is_way (P := PySem.Challenge.rw_turnsets_k41_whole_ways.prog) (w := w) (base := base) Disway B TC
    have Giw := Ts.ok_is_ways Disways B TC T B.all Dendsof Geo Disway Giy M_below GB M_steps GS M_price GP
    have Gd := Ts.ok_draw (P := PySem.Challenge.rw_turnsets_k41_whole_ways.prog) (w := w) (base := base) DLdraw B
    have Gp := Ts.ok_pick (P := PySem.Challenge.rw_turnsets_k41_whole_ways.prog) (w := w) (base := base) DLpick DLdraw B
    have Gw := Ts.ok_way (P := PySem.Challenge.rw_turnsets_k41_whole_ways.prog) (w := w) (base := base) DLway B
    have Gr := Ts.ok_rows (P := PySem.Challenge.rw_turnsets_k41_whole_ways.prog) (w := w) (base := base) DLway DLrows DLname DLpick DLdraw B
    have Glw := Ts.ok_Lwith (P := PySem.Challenge.rw_turnsets_k41_whole_ways.prog) (w := w) (base := base) DLwith B
    have Gpi := Ts.ok_Lpins DLpins B DLwith Glw
    have Gls := Ts.ok_Lsteps DLwaysteps DLway Gw
    have Gli := Ts.ok_Lint (P := PySem.Challenge.rw_turnsets_k41_whole_ways.prog) (w := w) (base := base) DLisinteger B
    have Gtr := Ts.ok_Ltri DListriple B DLisinteger Gli
    have Gla := Ts.ok_Lare DLareways B B.all hSum DListriple Gtr DLwaysteps Gls
    have Gde := Ts.ok_Ldef DLdefault DLpick Gp
    have Gwi := Ts.ok_Lwish DLwish B DLpick Gp DLdraw Gd
    have GMP := Ts.ok_M_price L_price.F hSum T M M_price GP
    have GMV := Ts.ok_M_value L_value.F M Dcheckplace Gpl
    have Gba := Ts.ok_Lbarred DLisbarred B.all DLpins Gpi DLwaysteps Gls
    have Gbg := Ts.ok_Lbg DLbarredright DLisbarred Gba
    have Gsn := Ts.ok_Lshown DLisshown B hSum M XH DLpins Gpi DLareways Gla Disways Giw L_price GMP L_value GMV
    exact Ts.ok_law Dlaw B T XH DLasked TE TB0 (.head _) Ts.uniq0 DLstream DLdraw Gd DLkinds DLprices DLrows Gr DLwish Gwi DLdefault Gde DLbarredright Gbg DLisshown Gsn gk kk bk Xch MT bI GT
