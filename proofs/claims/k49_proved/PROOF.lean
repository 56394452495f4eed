import PyProof.Rows.All
import Wide.All
import OpenK.AllK
import Wide.FinOn
import HandS.ForMost
import HandS.IsInst
import HandS.Conv
import HandS.DictComp
import HandS.Deep
import HandS.NoneIn
import HandS.Style
import HandS.TupAny
import HandS.OwnEq
import HandS.More
import HandS.Flow
import HandS.Codes
import HandS.Walk
import HandS.StrMore
import KE.GoesMore
import KE.GoesEnum
import HandS.DeepEq
import HandS.Defaults
import HandS.IterNext
import HandS.IterVal
import KE.KOwnIter
import KE.KOpsOwn
import HandS.Dict
import KE.KDictCopyH
import PyProof.TupleOfSeq
import HandS.Strs
import HandS.SetTxt0
import HandS.Finally
import PySem.Challenge.RW_turnsets_k49_whole_counts
set_option Elab.async false
set_option linter.all false

set_option maxRecDepth 100000
set_option maxHeartbeats 4000000
namespace Ts
open PySem L2
section
variable {X : Cx} {CX : CXT} {k : Nat} {f C : Addr} {fd : FuncData} {ps : List Str} {sp : Sp} {E : XK}
/-- a def of the text run below a builtin of this body -/
theorem run_at {A : Around} {pins : List (Addr × Obj)} {σ : St} {H : Hp} {s : Shared} {Q : VK} {us : List Value} {vs : List V} (F : FnOk X.prog X.w X.K X.mg X.base CX k f fd ps sp) (hr : Room k A) (hfr : A.frames = X.A.frames) (hb : Binds X.K fd ps []) (hx : Passes CX X E)
    (I : Inv X pins σ H s) (r : Vals vs us) (h : sp vs H Q E) : wpAny (model X.prog X.w) A (call (.ref f) us) (EP X pins σ Q) X.xe s := by
  have hl : us.length = ps.length := by rw [← r.length]; exact F.len _ _ _ _ h
  have e0 : Env0 X.prog X.w X.K X.mg X.base A X.stack s H := by
    have e := I.env0
    exact ⟨by rw [hfr]; exact e.frames, e.mod, e.bs, e.bsz, e.funs, e.frf, e.hok, e.bare⟩
  refine wpAny_call (codeAny_mono (F.run A X.stack s H ⟨us, []⟩ us vs Q E hr e0 (by
    have := hb s us I.kIn (by simpa using hl)
    simpa using this) r h) fun r s' hq => ?_)
  cases r with
  | error e => exact hx pins σ H s e s' I hq
  | ok fl =>
    cases fl with
    | ret u => exact I.after hq
    | next => exact False.elim hq
    | brk => exact False.elim hq
    | cont => exact False.elim hq
/-- x in o, o of an own class with its own look -/
def rInC (C : Addr) (sp : Sp) (E : XK) : R2 := fun x y H Q => ∃ a dx fs, y = .ref a ∧ H a = some (.ins C dx fs) ∧ sp [.ref a, x] H (fun v H' => ∃ b, v = .bl b ∧ Q (.bl b) H') E
def rNotInC (C : Addr) (sp : Sp) (E : XK) : R2 := fun x y H Q => ∃ a dx fs, y = .ref a ∧ H a = some (.ins C dx fs) ∧ sp [.ref a, x] H (fun v H' => ∃ b, v = .bl b ∧ Q (.bl (!b)) H') E
theorem op_inC (F : FnOk X.prog X.w X.K X.mg X.base CX k f fd ps sp) (m : Meth X.K C "__contains__" f) (hr : Room k X.A) (hb : Binds X.K fd ps []) (hx : Passes CX X E) : OpR X (compareOp .In) (rInC C sp E) := by
  intro pins s σ H x y v u Q I rx ry hq
  obtain ⟨a, dx, fs, rfl, ha, hsp⟩ := hq
  cases ry
  obtain ⟨mA, J, _⟩ := ins_get I.hok ha
  obtain ⟨od, J, _⟩ := J.look
  obtain ⟨mm, hF⟩ := I.fr
  refine PySem.W.in_K hF I.ok.mod.kin J m.at_ m.fn ?_
  refine wpAny_mono (run_at F hr rfl hb hx I (us := [.ref a, v]) (.cons (show RelV (.ref a) (.ref a) from rfl) (.cons rx .nil)) hsp) (fun r s' hq => ?_) fun _ _ x => x
  obtain ⟨z, H', I', rz, b, rfl, q⟩ := hq
  cases rz
  exact wpAny_truthy_bool ⟨.bl b, H', I', rfl, q⟩
theorem op_notinC (F : FnOk X.prog X.w X.K X.mg X.base CX k f fd ps sp) (m : Meth X.K C "__contains__" f) (hr : Room k X.A) (hb : Binds X.K fd ps []) (hx : Passes CX X E) : OpR X (compareOp .NotIn) (rNotInC C sp E) := by
  intro pins s σ H x y v u Q I rx ry hq
  obtain ⟨a, dx, fs, rfl, ha, hsp⟩ := hq
  cases ry
  obtain ⟨mA, J, _⟩ := ins_get I.hok ha
  obtain ⟨od, J, _⟩ := J.look
  obtain ⟨mm, hF⟩ := I.fr
  refine PySem.W.notIn_K hF I.ok.mod.kin J m.at_ m.fn ?_
  refine wpAny_mono (run_at F hr rfl hb hx I (us := [.ref a, v]) (.cons (show RelV (.ref a) (.ref a) from rfl) (.cons rx .nil)) hsp) (fun r s' hq => ?_) fun _ _ x => x
  obtain ⟨z, H', I', rz, b, rfl, q⟩ := hq
  cases rz
  exact wpAny_truthy_bool ⟨.bl (!b), H', I', rfl, q⟩
/-- len(o) -/
def rLenC (C : Addr) (sp : Sp) (E : XK) : List V → Hp → VK → Prop := fun xs H Q => ∃ a dx fs, xs = [.ref a] ∧ H a = some (.ins C dx fs) ∧ sp [.ref a] H (fun v H' => ∃ n : Int, v = .int n ∧ (0 ≤ n ∧ n < 2 ^ 63) ∧ Q (.int n) H') E
theorem call_lenC (F : FnOk X.prog X.w X.K X.mg X.base CX k f fd ps sp) (m : Meth X.K C "__len__" f) (hr : Room (k + 1) X.A) (hb : Binds X.K fd ps []) (hx : Passes CX X E) : CallR X (.builtin "len") (rLenC C sp E) := by
  intro pins s σ H xs us Q I r hq
  obtain ⟨a, dx, fs, rfl, ha, hsp⟩ := hq
  obtain ⟨u, rfl, ru⟩ := vals1 r
  cases ru
  obtain ⟨mA, J, _⟩ := ins_get I.hok ha
  obtain ⟨od, J, _⟩ := J.look
  obtain ⟨mm, hF⟩ := I.fr
  refine PySem.W.len_K hF I.ok.mod.kin J m.at_ m.fn ?_
  refine wpAny_mono (run_at F hr.in1 rfl hb hx I (us := [.ref a]) (.cons (show RelV (.ref a) (.ref a) from rfl) .nil) hsp) (fun r s' hq => ?_) fun _ _ x => x
  obtain ⟨z, H', I', rz, n, rfl, hn, q⟩ := hq
  obtain ⟨t, rfl⟩ := rz
  exact ⟨hn, .int n, H', I'.tok _, ⟨_, rfl⟩, q⟩
/-- the sort of a value, as == wants to know it -/
inductive TyE (H : Hp) : V → Value → Prop where
  | non : TyE H .non (.type "NoneType")
  | bl (x : Bool) : TyE H (.bl x) (.type "bool")
  | int (i : Int) : TyE H (.int i) (.type "int")
  | str (x : Str) : TyE H (.str x) (.type "str")
  | lst {a : Addr} {xs : List V} (e : H a = some (.lst xs)) : TyE H (.ref a) (.type "list")
  | tup {a : Addr} {xs : List V} (e : H a = some (.tup xs)) : TyE H (.ref a) (.type "tuple")
  | dK {a : Addr} {kvs : List (Key × V)} (e : H a = some (.dK kvs)) : TyE H (.ref a) (.type "dict")
  | ins {a C dx : Addr} {fs : List (Str × V)} (e : H a = some (.ins C dx fs)) : TyE H (.ref a) (.ref C)
theorem ty_looks {pins : List (Addr × Obj)} {σ : St} {H : Hp} {s : Shared} {y : V} {u tb : Value} (I : Inv X pins σ H s) (r : RelV y u) (ty : TyE H y tb) : PySem.W.Looks (model X.prog X.w) s.heap (typeOf u) tb := by
  have lk : ∀ {a : Addr} {o : Obj} {c : Value}, s.heap.get? a = some o → o.cls = c → PySem.W.Looks (model X.prog X.w) s.heap (typeOf (.ref a)) c := fun {a o c} e h => h ▸ (PySem.W.Looks.ld e).andThen .now
  cases ty with
  | non => cases (show u = Value.none from r); exact PySem.W.Looks.of_pure rfl
  | bl y => cases (show u = Value.bool y from r); exact PySem.W.Looks.of_pure rfl
  | int i => obtain ⟨t, q⟩ := (show ∃ t, u = Value.int i t from r); cases q; exact PySem.W.Looks.of_pure rfl
  | str y => obtain ⟨t, q⟩ := (show ∃ t, u = Value.str y t from r); cases q; exact PySem.W.Looks.of_pure rfl
  | @lst a xs ea =>
    cases (show u = Value.ref a from r)
    obtain ⟨_, _, n, _, h1⟩ := (show ObjOk X.prog X.w H s.heap a (.lst xs) from I.hok a _ ea)
    exact lk h1 rfl
  | @tup a xs ea =>
    cases (show u = Value.ref a from r)
    obtain ⟨_, _, _, o, h1, h2, _⟩ := (show ObjOk X.prog X.w H s.heap a (.tup xs) from I.hok a _ ea)
    exact lk h1 h2
  | @dK a kvs ea =>
    cases (show u = Value.ref a from r)
    obtain ⟨_, _, vs, _, o, es, ep, h1, h2, _⟩ := (show ObjOk X.prog X.w H s.heap a (.dK kvs) from I.hok a _ ea)
    exact lk h1 h2.1
  | @ins a C dx fs ea =>
    cases (show u = Value.ref a from r)
    obtain ⟨mA, J, _⟩ := ins_get I.hok ea
    obtain ⟨od, J, _⟩ := J.look
    exact J.type
/-- o == y -/
def rEqC (K : PySem.W.Frag) (C : Addr) (sp : Sp) (E : XK) : R2 := fun x y H Q => ∃ a dx fs tb, x = .ref a ∧ H a = some (.ins C dx fs) ∧ TyE H y tb ∧ PySem.W.notFirst K C tb = true ∧ sp [.ref a, y] H (fun v H' => ∃ b, v = .bl b ∧ Q (.bl b) H') E
def rNeC (K : PySem.W.Frag) (C : Addr) (sp : Sp) (E : XK) : R2 := fun x y H Q => ∃ a dx fs tb, x = .ref a ∧ H a = some (.ins C dx fs) ∧ TyE H y tb ∧ PySem.W.notFirst K C tb = true ∧ sp [.ref a, y] H (fun v H' => ∃ b, v = .bl b ∧ Q (.bl (!b)) H') E
theorem op_eqC (F : FnOk X.prog X.w X.K X.mg X.base CX k f fd ps sp) (m : Meth X.K C "__eq__" f) (hr : Room k X.A) (hb : Binds X.K fd ps []) (hx : Passes CX X E) : OpR X (compareOp .Eq) (rEqC X.K C sp E) := by
  intro pins s σ H x y v u Q I rx ry hq
  obtain ⟨a, dx, fs, tb, rfl, ha, ty, hn, hsp⟩ := hq
  cases rx
  obtain ⟨mA, J, _⟩ := ins_get I.hok ha
  obtain ⟨od, J, _⟩ := J.look
  obtain ⟨mm, hF⟩ := I.fr
  show wpAny (model X.prog X.w) X.A (richCompare .Eq _ u) (EP X pins σ Q) X.xe s
  refine PySem.W.cmp_K (op := .Eq) (tb := tb) hr.units0 hF I.ok.mod.kin J (ty_looks I ry ty) hn m.at_ m.fn ?_
  refine wpAny_mono (run_at F hr rfl hb hx I (us := [.ref a, u]) (.cons (show RelV (.ref a) (.ref a) from rfl) (.cons ry .nil)) hsp) (fun r s' hq => ?_) fun _ _ x => x
  obtain ⟨z, H', I', rz, b, rfl, q⟩ := hq
  cases rz
  exact ⟨.bl b, H', I', rfl, q⟩
section
open PySem.W
open PyProof.Rows (Fr)
variable {prog : Program} {w : World} {A : Around} {E : Value → Shared → Prop} {s : Shared} {K : Frag} {h₀ : Heap} {L : Addr} {m : Str → Option Value} {x f C : Addr} {ox : Obj} {od : Option Obj} {b tb : Value}
theorem ne_own_K {Q : Value → Shared → Prop} (hu : A.units + 1 < cLine) (F : Fr h₀ L s.heap m) (X₀ : K.In h₀) (I : InstAt s.heap x ox C od) (hb : Looks (model prog w) s.heap (typeOf b) tb) (hn : notFirst K C tb = true)
    (hne : findIn K (.ref C) "__ne__" = some (some (.builtin "object.__ne__"))) (hs : findIn K (.ref C) "__eq__" = some (some (.ref f))) (hf : isFn K (.ref f) = true) (ho : subIn K (.ref C) (.type "object") = some true)
    (h : wpAny (model prog w) A.in1 (call (.ref f) [.ref x, b]) (fun v s' => ∃ r, v = .bool r ∧ Q (.bool (!r)) s') E s) : wpAny (model prog w) A (richCompare .NotEq (.ref x) b) Q E s := by
  have X := X₀.keeps F.keep
  have body : wpAny (model prog w) A.in1 (Builtin.«object.__ne__» ⟨[.ref x, b], []⟩) (GQ.FinOf prog w A (wants (fun v s' => ∃ r, v = .bool r ∧ Q v s') E)) (fun e s' => wants (fun v s' => ∃ r, v = .bool r ∧ Q v s') E (.error e) s') s := by
    unfold Builtin.«object.__ne__»
    repeat (first
      | with_reducible refine wpAny_cRoomFor hu ?_
      | (refine wpAny_bind (m := callSpecialIfBound? (.ref x) (Str.ofString "__eq__") [b]) (ifBound_K X I hs hf (wpAny_mono h (fun r s' hr => by
          obtain ⟨r, rfl, hq⟩ := hr
          repeat (first | exact ⟨_, rfl, hq⟩ | exact wpAny_pure ⟨_, rfl, hq⟩ | (refine wpAny_bind (m := truthy (.bool _)) (wpAny_truthy_bool ?_)) | wp_step)) fun _ _ e => e)))
      | wp_step)
  have bind : bindSpecial (.builtin "object.__ne__") (.ref x) = pure (.builtin "object.__ne__", [.ref x]) := PySem.F.cmp_object.ne.bind (.ref x)
  have one : wpAny (model prog w) A (tryCompare (.ref x) "__ne__" b) (fun r s' => ∃ v, r = some v ∧ Q v s') E s := by
    unfold tryCompare
    refine wpAny_bind ?_
    simp only [callSpecialIfBound?, bindSpecialIfBound?]
    refine wpAny_holding (wpAny_bind (wpAny_bind (wpAny_bind (I.type.here ((looks_findIn X hne).here ?_)))))
    have fin : wpAny (model prog w) A (call (.builtin "object.__ne__") ([.ref x] ++ [b])) (fun v s' => ∃ r, v = .bool r ∧ Q v s') E s :=
      wpAny_call (codeAny_call_builtin PySem.F.cmp_object.ne.plain PySem.F.cmpEntry_ne (check_slot PySem.F.cmpKind_ne PySem.F.cmpSplit_ne (I.type.andThen (looks_subIn X ho)) (PySem.F.cmpArgs_ne _ _) body))
    simp only [bind]
    refine wpAny_bind (wpAny_askSetting (wpAny_ite ?_))
    split
    · refine wpAny_bind (wpAny_pure (wpAny_pure ?_))
      refine wpAny_bind (wpAny_mono fin (fun v s' z => ?_) fun _ _ e => e)
      obtain ⟨r, rfl, q⟩ := z
      refine wpAny_pure ?_
      exact wpAny_pure ⟨_, rfl, q⟩
    · refine wpAny_tryCatch (wpAny_bind (wpAny_pure (wpAny_pure ?_)))
      refine wpAny_bind (wpAny_mono fin (fun v s' z => ?_) fun _ _ e => e)
      obtain ⟨r, rfl, q⟩ := z
      refine wpAny_pure ?_
      exact wpAny_pure ⟨_, rfl, q⟩
  unfold richCompare
  simp only [oneThing_ref]
  refine wpAny_holding (wpAny_bind (wpAny_cRoomFor (Nat.lt_of_succ_lt hu) ?_))
  refine wpAny_bind (I.type.here (wpAny_bind (hb.here ?_)))
  split
  · rename_i q
    have e : subIn K tb (.ref C) = some false := by
      rcases Bool.or_eq_true_iff.mp hn with e | e
      · rw [beq_iff_eq.mp e] at q; simp at q
      · exact beq_iff_eq.mp e
    refine wpAny_bind ((looks_subIn X e).here ?_)
    simp only [Bool.false_eq_true, if_false]
    refine wpAny_bind (wpAny_mono one (fun r s' z => ?_) fun _ _ e => e)
    obtain ⟨v, rfl, hq⟩ := z
    exact wpAny_pure hq
  · refine wpAny_bind (wpAny_pure ?_)
    simp only [Bool.false_eq_true, if_false]
    refine wpAny_bind (wpAny_mono one (fun r s' z => ?_) fun _ _ e => e)
    obtain ⟨v, rfl, hq⟩ := z
    exact wpAny_pure hq
end
section
variable {X : Cx} {CX : CXT} {k : Nat} {f C : Addr} {fd : FuncData} {ps : List Str} {sp : Sp} {E : XK}
theorem op_neC (F : FnOk X.prog X.w X.K X.mg X.base CX k f fd ps sp) (m : Meth X.K C "__eq__" f) (hne : PySem.W.findIn X.K (.ref C) "__ne__" = some (some (.builtin "object.__ne__"))) (ho : PySem.W.subIn X.K (.ref C) (.type "object") = some true) (hr : Room (k + 1) X.A) (hb : Binds X.K fd ps []) (hx : Passes CX X E) : OpR X (compareOp .NotEq) (rNeC X.K C sp E) := by
  intro pins s σ H x y v u Q I rx ry hq
  obtain ⟨a, dx, fs, tb, rfl, ha, ty, hn, hsp⟩ := hq
  cases rx
  obtain ⟨mA, J, _⟩ := ins_get I.hok ha
  obtain ⟨od, J, _⟩ := J.look
  obtain ⟨mm, hF⟩ := I.fr
  show wpAny (model X.prog X.w) X.A (richCompare .NotEq _ u) (EP X pins σ Q) X.xe s
  refine ne_own_K (tb := tb) (by have := hr.un; omega) hF I.ok.mod.kin J (ty_looks I ry ty) hn hne m.at_ m.fn ho ?_
  refine wpAny_mono (run_at F hr.in1 rfl hb hx I (us := [.ref a, u]) (.cons (show RelV (.ref a) (.ref a) from rfl) (.cons ry .nil)) hsp) (fun r s' hq => ?_) fun _ _ x => x
  obtain ⟨z, H', I', rz, b, rfl, q⟩ := hq
  cases rz
  exact ⟨b, rfl, .bl (!b), H', I', rfl, q⟩
end
end
end Ts

set_option maxRecDepth 100000
set_option maxHeartbeats 4000000
namespace Ts
open PySem L2
/-! ### enumerate(tuple) -/
set_option maxHeartbeats 4000000 in
theorem meets_enum_T (t : Addr) (its : Array Value) :
    Meets (Builtin.«enumerate.__new__» ⟨[.type "enumerate", .ref t], []⟩) (fun _ R s => s.heap.IsTuple t its ∧
      R (.ok (.ret (.ref (s.heap.push { cls := .type "tuple_iterator", data := .fields #[.ref t, .int 0 0] }).objs.size)))
        { s with heap := (s.heap.push { cls := .type "tuple_iterator", data := .fields #[.ref t, .int 0 0] }).push { cls := .type "enumerate", data := .fields #[.none, .bool false, .ref s.heap.objs.size, rawInt 0, .none, .none] } }) :=
  .of_wp fun prog w A R s h => by
    obtain ⟨hp, g, d, tk, os⟩ := s
    obtain ⟨hT, h⟩ := h
    have hsub := sub_enumerate
    wp_walk
    refine wpAny_stack_any fun st => wpAny_pure ?_
    split
    · rename_i c _ _ _ _ _
      cases (c == Value.type "enumerate")
      · wp_walk using wpAny_pyIter_tuple hT
        exact ⟨_, rfl, h⟩
      · wp_walk using wpAny_pyIter_tuple hT
        exact ⟨_, rfl, h⟩
    · wp_walk using wpAny_pyIter_tuple hT
      exact ⟨_, rfl, h⟩

section
variable {prog : Program} {w : World} {A : Around} {E : Value → Shared → Prop} {s : Shared}
theorem call_enum_T {t : Addr} {its : Array Value} {Q : Value → Shared → Prop} (hT : s.heap.IsTuple t its)
    (k : ∀ g, IsEnum g (s.heap.objs.size + 1) s.heap.objs.size 0 .none → g.IsTupleIter s.heap.objs.size t 0 → (∀ b o, s.heap.get? b = some o → g.get? b = some o) → Q (.ref (s.heap.objs.size + 1)) { s with heap := g }) :
    wpAny (model prog w) A (call (.type "enumerate") [.ref t]) Q E s := by
  refine callType_new F.called_enumerate (by decide) (F.typeCall_enumerate_1 _) (F.newCall_enumerate_1 _) (fun o => F.args_object_init_2 o _) F.entry_enumerate_new (meets_enum_T t its) ⟨hT, ?_⟩
  have z : (s.heap.push { cls := .type "tuple_iterator", data := .fields #[.ref t, .int 0 0] }).objs.size = s.heap.objs.size + 1 := Heap.size_push ..
  show _ ∧ _
  rw [z]
  have en : IsEnum ((s.heap.push { cls := .type "tuple_iterator", data := .fields #[.ref t, .int 0 0] }).push { cls := .type "enumerate", data := .fields #[.none, .bool false, .ref s.heap.objs.size, rawInt 0, .none, .none] }) (s.heap.objs.size + 1) s.heap.objs.size 0 .none := by
    have q := Heap.get?_push_size (s.heap.push { cls := .type "tuple_iterator", data := .fields #[.ref t, .int 0 0] }) (o := { cls := .type "enumerate", data := .fields #[.none, .bool false, .ref s.heap.objs.size, rawInt 0, .none, .none] }) rfl
    rw [z] at q
    exact q
  exact ⟨⟨_, en, rfl⟩, k _ en ⟨_, Heap.get?_push_of_some _ (Heap.get?_push_size _ rfl), rfl, rfl⟩ fun b o y => Heap.get?_push_of_some _ (Heap.get?_push_of_some _ y)⟩
end
/-- the tuple at a as it stands at each turn, each item in a new pair -/
def IteT (K : PySem.W.Frag) (a : Addr) : It :=
  ⟨fun i H => ∃ (xs : List V) (x : V), SqT K H a xs ∧ xs[i]? = some x, fun i H v H' => ∃ T x, v = .ref T ∧ H T = none ∧ H' = upd H T (.tup [.int (i : Nat), x]) ∧ ∀ xs, SqT K H a xs → xs[i]? = some x, fun i H => ∃ xs : List V, SqT K H a xs ∧ xs.length = i⟩
theorem turn_enumT {P : Program} {w : World} {K : PySem.W.Frag} {elts : List Expr} {kk : Nat} {tpos : Pos} (a e it : Addr) :
    Turn P w K (.Tuple elts kk tpos) (IteT K a) [e, it] e (fun i h => (∃ old, IsEnum h e it ((i : Nat) : Int) old) ∧ h.IsTupleIter it a i ∧ e ≠ it ∧ a ≠ it ∧ e ≠ a) where
  mem := by simp
  obj := fun i h st b hb => by
    obtain ⟨⟨old, en⟩, ⟨o, ho, hc, hd⟩, _⟩ := st
    rcases (show b = e ∨ b = it by simpa using hb) with z | z
    · rw [z]; exact ⟨_, en, fun v q => nomatch q⟩
    · rw [z]; exact ⟨o, ho, fun v q => by rw [hd] at q; cases q⟩
  keep := fun i h h' st k => let ⟨⟨old, en⟩, hi, r⟩ := st; ⟨⟨old, k e (by simp) _ en⟩, hi.at fun o y => k it (by simp) o y, r⟩
  item := by
    intro X hP hw hK hc i pins s σ H E I hf st hg
    subst hP hw hK
    obtain ⟨⟨old, en⟩, hit, hne, hai, hea⟩ := st
    obtain ⟨xs, x, hq, hx⟩ := hg
    obtain ⟨its, rv, p, hz⟩ := I.tuple hq
    obtain ⟨u, hu, ru⟩ := rv.get hx
    have pT : s.heap.IsTuple a its.toArray := p
    have hil : i < its.toArray.size := by
      have q := (List.getElem?_eq_some_iff.mp hu).1
      simpa using q
    have l1 : e < s.heap.objs.size := Heap.lt_size en
    have l2 : it < s.heap.objs.size := by obtain ⟨_, q, _⟩ := hit; exact Heap.lt_size q
    have hh1 : X.A.in1.handled = none := I.ok.hd hc
    refine wpAny_pyNext_enum_itemD (Draws.tuple hh1 it a hai its.toArray) en ⟨hit, pT⟩ hil hne (by simp [hne, hea]) fun x' g tk hx' ho st' hT hsz hk => ?_
    have ex : x' = u := by
      have q : its.toArray[i]? = some u := by simpa using hu
      rw [q] at hx'
      exact (Option.some.inj hx').symm
    subst ex
    refine ⟨_, rfl, wpAny_letOwnedTupleGo_enum (s := { s with heap := g, toks := tk + 1 }) ho fun g2 he' sb => ?_⟩
    have hT2 : g2.get? s.heap.objs.size = some { cls := .type "tuple", data := .seq #[.int i tk, x'] } := (sb.2 _ (Nat.ne_of_gt l1)).trans hT
    have new : ObjOk X.prog X.w (upd H s.heap.objs.size (.tup [.int (i : Nat), x])) g2 s.heap.objs.size (.tup [.int (i : Nat), x]) :=
      ⟨by show 2 ≤ sizeLine; decide, [.int i tk, x'], .cons ⟨_, rfl⟩ (.cons ru .nil), ⟨_, hT2, rfl, _, rfl⟩⟩
    have I1 : Inv X pins σ (upd H s.heap.objs.size (.tup [.int (i : Nat), x])) { s with heap := g2, toks := tk + 1 } :=
      I.turnedNew (ch := [e, it]) (fun b o hb y => (sb.2 b (fun z => hb (by simp [z]))).trans (hk b o (fun z => hb (by simp [z])) (fun z => hb (by simp [z])) y)) hf (Nat.le_refl _) new
    refine ⟨.ref s.heap.objs.size, _, I1, rfl, ⟨_, x, rfl, I.hok.fresh (Nat.le_refl _), rfl, fun ys hy => by rw [I.tuple_inj hy hq]; exact hx⟩, ⟨⟨x', ?_⟩, st'.1.at fun o y => (sb.2 it (Ne.symm hne)).trans y, hne, hai, hea⟩, fun b hb => ?_⟩
    · rw [show ((i + 1 : Nat) : Int) = (i : Int) + 1 by omega]
      exact he'
    · have lb : b < s.heap.objs.size := by
        rcases (show b = e ∨ b = it by simpa using hb) with z | z
        · rw [z]; exact l1
        · rw [z]; exact l2
      rw [upd_ne (Nat.ne_of_lt lb)]
      exact (hf b hb).1
  done := by
    intro X hP hw hK hc i pins s σ H E I hf st hg
    subst hP hw hK
    obtain ⟨⟨old, en⟩, hit, hne, hai, hea⟩ := st
    obtain ⟨xs, hq, hx⟩ := hg
    obtain ⟨its, rv, p, hz⟩ := I.tuple hq
    have pT : s.heap.IsTuple a its.toArray := p
    have hh1 : X.A.in1.handled = none := I.ok.hd hc
    have ei : its.toArray.size = i := by rw [← hx, rv.length]; simp
    obtain ⟨f0, f1, f2, f3, f4, f5⟩ := hf it (by simp)
    refine wpAny_pyNext_enum_endD (Draws.tuple hh1 it a hai its.toArray) en (by rw [ei]; exact ⟨hit, pT⟩) fun g eb => ⟨rfl, I.turned (t' := s.toks) (fun b o hb y => eb b o hb y) f0 f1 f3 f4 f5⟩
  self := fun A i s Q E st h => let ⟨⟨_, en⟩, _⟩ := st; wpAny_pyIter_enum en h
def iEnumT (K : PySem.W.Frag) (ta : TA) : TI := fun σ H R => ta σ H fun vs H1 => ∃ a xs, vs = [.ref a] ∧ SqT K H1 a xs ∧ R (IteT K a) H1
theorem pi_enumT {X : Cx} {e : Expr} {ta : TA} {p pos tpos : Pos} {elts : List Expr} {kk : Nat} (hg : Gl X "enumerate") (hm : X.mg "enumerate" = none) (ha : PA X [e] ta) (hs : starEach [e] X.env = [(false, eval e X.env)] := by rfl) :
    PI X (.Tuple elts kk tpos) (.Call (.Name "enumerate" p) [e] [] pos) (iEnumT X.K ta) := by
  refine ⟨fun pins s σ H R I h => ?_⟩
  refine wpAny_Call_Name_kw (ld_blt I hg hm PyProof.Rows.boot_enumerate (PyProof.Rows.callWith_type1 (thn (ha.run pos pins s σ H _ I h) fun us s1 z => ?_) hs rfl))
  obtain ⟨vs, H1, I1, r1, a, xs, ex, hq, q⟩ := z
  subst ex
  obtain ⟨u, rfl, ru⟩ := vals1 r1
  cases ru
  obtain ⟨its, rv, p', hz⟩ := I1.tuple hq
  have pT : s1.heap.IsTuple a its.toArray := p'
  obtain ⟨oa, hoa, _⟩ := id pT
  have la : a < s1.heap.objs.size := Heap.lt_size hoa
  refine call_enum_T pT fun g en hit hk => wpAny_pyIter_enum en ?_
  have I2 : Inv X pins σ H1 { s1 with heap := g } := I1.kept (t' := s1.toks) hk
  refine ⟨s1.heap.objs.size + 1, [s1.heap.objs.size + 1, s1.heap.objs.size], _, _, H1, rfl, I2, turn_enumT a (s1.heap.objs.size + 1) s1.heap.objs.size, ⟨⟨.none, en⟩, hit, Nat.succ_ne_self _, Nat.ne_of_lt la, Nat.ne_of_gt (Nat.lt_succ_of_lt la)⟩, fun b hb => ?_, q⟩
  have ge : s1.heap.objs.size ≤ b := by
    rcases (show b = s1.heap.objs.size + 1 ∨ b = s1.heap.objs.size by simpa using hb) with z | z
    · rw [z]; exact Nat.le_add_right _ _
    · rw [z]; exact Nat.le_refl _
  exact I1.fpOk ge (I1.hok.fresh ge)
theorem walk_enumT {K : PySem.W.Frag} {a : Addr} {xs : List V} : Walk (IteT K a) xs.length (fun H => SqT K H a xs) (YPair (fun i => some (.int (i : Nat))) (fun i => xs[i]?)) := by
  refine ⟨fun i _ hi q => ⟨xs, xs[i], q, by simp [hi]⟩, fun _ q => ⟨xs, q, rfl⟩, fun i H v H' _ q y => ?_⟩
  obtain ⟨T, x, y1, y2, y3, y4⟩ := y
  exact ⟨T, .int (i : Nat), x, y1, y2, y3, rfl, y4 xs q⟩
/-! ### one rule or another -/
section
variable {X : Cx} {e : Expr}
theorem pe_or' {t u : TE} (a : PE X e t) (b : PE X e u) : PE X e (fun σ H Q => t σ H Q ∨ u σ H Q) := ⟨fun pins s σ H Q I h => h.elim (a.run pins s σ H Q I) (b.run pins s σ H Q I)⟩
theorem pg_or {t u : TG} (a : PG X e t) (b : PG X e u) : PG X e (fun v σ H Q => t v σ H Q ∨ u v σ H Q) := ⟨fun pins s σ H v w Q I r h => h.elim (a.run pins s σ H v w Q I r) (b.run pins s σ H v w Q I r)⟩
theorem pi_or {tg : Expr} {t u : TI} (a : PI X tg e t) (b : PI X tg e u) : PI X tg e (fun σ H R => t σ H R ∨ u σ H R) := ⟨fun pins s σ H R I h => h.elim (a.run pins s σ H R I) (b.run pins s σ H R I)⟩
theorem op_or' {f : Value → Value → Sem Value} {r q : R2} (a : OpR X f r) (b : OpR X f q) : OpR X f (fun x y H Q => r x y H Q ∨ q x y H Q) := fun pins s σ H x y v u Q I rx ry h => h.elim (a pins s σ H x y v u Q I rx ry) (b pins s σ H x y v u Q I rx ry)
theorem ps_or {st : Stmt} {t u : TS} (a : PS X st t) (b : PS X st u) : PS X st (fun D σ H => t D σ H ∨ u D σ H) := ⟨fun pins s σ H D I h => h.elim (a.run pins s σ H D I) (b.run pins s σ H D I)⟩
theorem call_or {f : Value} {r q : List V → Hp → VK → Prop} (a : CallR X f r) (b : CallR X f q) : CallR X f (fun xs H Q => r xs H Q ∨ q xs H Q) := fun pins s σ H xs us Q I rv h => h.elim (a pins s σ H xs us Q I rv) (b pins s σ H xs us Q I rv)
end
end Ts

set_option maxRecDepth 100000
set_option maxHeartbeats 4000000
namespace Ts
open PySem L2
section
variable {X : Cx}
/-- a local takes a dict comprehension on one line -/
theorem ps_setDc {i : Nat} {y : Str} {py : Pos} {kx vx tg iter : Expr} {ifs : List Expr} {scope : Scope} {own : List (Str × Nat)} {pos spos : Pos} {wi : TI} {g : TG} {tt : TT} {tk tv : TE} (hc : X.calm = true) (hN : X.N.Nodup) (hy : X.N[i]? = some y) (hyl : X.env.scope.names.lookup y = some .local)
    (hsw : swapsWith (.DictComp kx vx [⟨tg, iter, ifs, 0⟩] scope pos) (some (.Name y py)) spos.line X.env = pure true) (hi : PI X tg iter wi) (ok : BlkOk X.N X.env.scope scope own)
    (hg : ∀ (s : Shared) (H : Hp) (C : Addr) (cl : List (Str × Addr)) (fp : List Addr), PG (X.blk s H scope (compEnvC scope cl C X.env) fp) tg g) (ht : ∀ (s : Shared) (H : Hp) (C : Addr) (cl : List (Str × Addr)) (fp : List Addr), PTs (X.blk s H scope (compEnvC scope cl C X.env) fp) ifs tt)
    (hk : ∀ (s : Shared) (H : Hp) (C : Addr) (cl : List (Str × Addr)) (fp : List Addr), PE (X.blk s H scope (compEnvC scope cl C X.env) fp) kx tk)
    (he : ∀ (s : Shared) (H : Hp) (C : Addr) (cl : List (Str × Addr)) (fp : List Addr), PE (X.blk s H scope (compEnvC scope cl C X.env) fp) vx tv) (hs : ∀ x, foldedSetIterable iter X.env x = pure x := by intro _; rfl) :
    PS X (.Assign [.Name y py] (.DictComp kx vx [⟨tg, iter, ifs, 0⟩] scope pos) spos) (tAsg (tDc wi g tt tk tv (own.map (·.2))) (gName i)) := by
  refine ⟨fun pins s σ H D I h => ?_⟩
  rw [exec_Assign_Name_used _ _ _ _ hsw]
  refine wpAny_bind (wpAny_standAt (wpAny_bind ?_))
  show wpAny _ X.A (do let _ ← comprehension (.DictComp kx vx [⟨tg, iter, ifs, 0⟩] scope pos) scope X.env (firstIterPos [⟨tg, iter, ifs, 0⟩] pos) newDict false (eval iter X.env) (some (assign (.Name y py) X.env))) _ _ s
  have h' : tDc wi g tt tk tv (own.map (·.2)) σ H (fun x H1 => gName i x σ H1 D.nx) := h
  refine wpAny_bind (thn (dc_core (Qf := fun _ s' => SP X pins D .next s') hc hN I hi ok hg ht hk he hs h' fun L C s' m H' I' q hn f => ?_) fun _ s' z => wpAny_pure (wpAny_pure z))
  show wpAny _ _ (assign (.Name y py) X.env (.ref L)) _ _ _
  refine wpAny_assign_Name (store_ok2 (v := V.ref L) I' hN hy (.inl hyl) rfl (fun s2 I2 ⟨a, sb, za⟩ => ?_) (.inr hyl))
  obtain ⟨f0, f1, f2, f3, f4, f5⟩ := f
  have ca : C ≠ a := by
    rcases za with z | z
    · rw [z]; exact f1
    · exact fun e => f4 y a z e.symm
  refine ⟨m, hn.sameBut sb ca, fun h3 sb3 => ?_⟩
  exact ⟨_, H', I2.turned (t' := s2.toks) (fun b o hb e => (sb3.2 b hb).trans e) f0 f1 f3 f4 f5, q⟩
theorem swd_true {kx vx : Expr} {gs : List Comprehension} {scope : Scope} {pos py : Pos} {y : Str} {l : Nat} {env : Env} (hk : env.scope.kind = .function) (hy : env.scope.names.lookup y = some .local) (hl : (py.line == pos.line) = true)
    (ha : (scope.names.any fun (n, k) => n == y && (k == .local || k == .cell)) = false) : swapsWith (.DictComp kx vx gs scope pos) (some (.Name y py)) l env = pure true := by
  have k1 : env.kindOf y = some .local := hy
  have k2 : env.blockKind = .function := by unfold Env.blockKind; rw [hk]; rfl
  unfold swapsWith
  simp only [k1, k2, ha, Expr.pos, hl]
  rfl
/-- a dict comprehension over what walks -/
theorem dc_it {J : It} {n : Nat} {G : Hp → Prop} {Y : Nat → Hp → V → Hp → Prop} (w : Walk J n G Y) {g : TG} {tt : TT} {tk tv : TE} {vs : List Nat} {σ : St} {H1 : Hp} {D : Addr} {Qd : Hp → Prop} (Pv : Nat → Hp → Prop) (h0 : Pv 0 (upd H1 D (.dK []))) (hG : ∀ i H, i ≤ n → Pv i H → G H)
    (hs : ∀ i x H H', i < n → Pv i H → Y i H x H' → g x (wipe σ vs) H' fun σ2 H2 => wipe σ2 vs = wipe σ vs ∧ tt σ2 H2 fun b H3 =>
      if b = true then tk σ2 H3 fun y H4 => tv σ2 H4 fun z H5 => ∃ kvs k, y = kV k ∧ H5 D = some (.dK kvs) ∧ kvs.length < sizeLine ∧ Pv (i + 1) (upd H5 D (.dK (putK kvs k z))) else Pv (i + 1) H3) (hd : ∀ H, Pv n H → Qd H) :
    ∃ W : Nat → Nat → Hp → Prop, (∃ m, W 0 m (upd H1 D (.dK []))) ∧ ∀ i m H, W i m H →
      (J.stop i H ∧ Qd H) ∨ (J.go i H ∧ ∃ Nx : Hp → Prop, (∀ H', Nx H' → ∃ m', m' < m ∧ W (i + 1) m' H') ∧ ∀ x H', J.yld i H x H' → g x (wipe σ vs) H' fun σ2 H2 => wipe σ2 vs = wipe σ vs ∧ tt σ2 H2 fun b H3 =>
        if b = true then tk σ2 H3 fun y H4 => tv σ2 H4 fun z H5 => ∃ kvs k, y = kV k ∧ H5 D = some (.dK kvs) ∧ kvs.length < sizeLine ∧ Nx (upd H5 D (.dK (putK kvs k z))) else Nx H3) := by
  refine ⟨fun i m H => m = n - i ∧ i ≤ n ∧ Pv i H, ⟨n, by simp, Nat.zero_le _, h0⟩, ?_⟩
  rintro i m H ⟨rfl, le, p⟩
  have q := hG i H le p
  by_cases lt : i < n
  · exact .inr ⟨w.goes i H lt q, Pv (i + 1), fun H' p' => ⟨n - (i + 1), by omega, rfl, lt, p'⟩, fun x H' y => hs i x H H' lt p (w.yields i H x H' lt q y)⟩
  · obtain rfl : i = n := by omega
    exact .inl ⟨w.stops H q, hd H p⟩
end
end Ts

set_option maxRecDepth 100000
set_option maxHeartbeats 4000000
namespace Ts
open PySem L2
/-! ### == and != of dicts of one and the same keys, with flat values -/
def kvX (f : Str → V) (l : List Str) : List (Key × V) := l.map fun z => ((.inr z : Key), f z)
theorem valV_kvX (f : Str → V) {z : Str} : ∀ {l : List Str}, z ∈ l → valV (kvX f l) (.inr z : Key) = some (f z)
  | x :: l, hz => by
    show ((((((.inr x : Key), f x) :: kvX f l).find? fun kv => decide (kv.1 = (.inr z : Key))).map (·.2)) : Option V) = some (f z)
    by_cases e : x = z
    · subst e
      rw [List.find?_cons_of_pos (by simp)]; rfl
    · rw [List.find?_cons_of_neg (by simpa using e)]
      exact valV_kvX f ((List.mem_cons.mp hz).resolve_left fun q => e q.symm)
def allE (f g : Str → V) (l : List Str) : Bool := l.all fun z => eqV (f z) (g z)
theorem hitsX {A : Around} {s : Shared} {f g : Str → V} {L : List Str} {vb : List (Key × Value)} (rb : KV (kvX g L) vb) : ∀ {l : List Str} {va : List (Key × Value)}, KV (kvX f l) va → (∀ z ∈ l, z ∈ L ∧ flatV (f z) = true ∧ flatV (g z) = true) → PySem.W.KeqHits A s vb va (allE f g l)
  | [], va, ra, _ => by
    unfold KV kvX at ra
    cases ra
    exact .nil
  | z :: l, va, ra, h => by
    have ra' : Paired _ (((.inr z : Key), f z) :: kvX f l) va := ra
    cases ra' with
    | cons h1 t =>
      rename_i q qs
      obtain ⟨e1, e2⟩ := h1
      obtain ⟨hz, f1, f2⟩ := h z (List.mem_cons_self ..)
      have rr : RelO (some (g z)) (valueAt vb (.inr z : Key)) := by rw [← valV_kvX g hz]; exact rb.val _
      obtain ⟨y, hy, ry⟩ := rr.some_of
      obtain ⟨key, v⟩ := q
      have e1' : (Sum.inr z : Key) = key := e1
      rw [e1'] at hy
      exact .hit hy (eqAt_V e2 ry f1 f2) (hitsX rb t fun x hx => h x (List.mem_cons_of_mem _ hx))
section
variable {X : Cx}
def rEqX : R2 := fun x y H Q => ∃ (a b : Addr) (f g : Str → V) (l : List Str), x = .ref a ∧ y = .ref b ∧ H a = some (.dK (kvX f l)) ∧ H b = some (.dK (kvX g l)) ∧ (∀ z ∈ l, flatV (f z) = true ∧ flatV (g z) = true) ∧ Q (.bl (allE f g l)) H
def rNeX : R2 := fun x y H Q => ∃ (a b : Addr) (f g : Str → V) (l : List Str), x = .ref a ∧ y = .ref b ∧ H a = some (.dK (kvX f l)) ∧ H b = some (.dK (kvX g l)) ∧ (∀ z ∈ l, flatV (f z) = true ∧ flatV (g z) = true) ∧ Q (.bl (!allE f g l)) H
theorem op_eqX (hu : X.A.units < cLine) : OpR X (compareOp .Eq) rEqX := by
  intro pins s σ H x y v u Q I rx ry h
  obtain ⟨a, b, f, g, l, rfl, rfl, ea, eb, hf, q⟩ := h
  obtain rfl : v = Value.ref a := rx
  obtain rfl : u = Value.ref b := ry
  obtain ⟨_, ya, va, ra, da⟩ := (show ObjOk X.prog X.w H s.heap a (.dK (kvX f l)) from I.hok a _ ea)
  obtain ⟨_, yb, vb, rb, db⟩ := (show ObjOk X.prog X.w H s.heap b (.dK (kvX g l)) from I.hok b _ eb)
  have hl : va.length = vb.length := by rw [← ra.length, ← rb.length]; unfold kvX; rw [List.length_map, List.length_map]
  refine PySem.W.keq_eq (knd := mixKind X.prog X.w) (r := allE f g l) ya yb da db hu (fun _ => hitsX rb ra fun z hz => ⟨hz, hf z hz⟩) ?_
  rw [show (va.length == vb.length && allE f g l) = allE f g l from by rw [hl]; simp]
  exact ⟨.bl _, H, I, rfl, q⟩
theorem op_neX (hu : X.A.units < cLine) : OpR X (compareOp .NotEq) rNeX := by
  intro pins s σ H x y v u Q I rx ry h
  obtain ⟨a, b, f, g, l, rfl, rfl, ea, eb, hf, q⟩ := h
  obtain rfl : v = Value.ref a := rx
  obtain rfl : u = Value.ref b := ry
  obtain ⟨_, ya, va, ra, da⟩ := (show ObjOk X.prog X.w H s.heap a (.dK (kvX f l)) from I.hok a _ ea)
  obtain ⟨_, yb, vb, rb, db⟩ := (show ObjOk X.prog X.w H s.heap b (.dK (kvX g l)) from I.hok b _ eb)
  have hl : va.length = vb.length := by rw [← ra.length, ← rb.length]; unfold kvX; rw [List.length_map, List.length_map]
  refine PySem.W.keq_ne (knd := mixKind X.prog X.w) (r := allE f g l) ya yb da db hu (fun _ => hitsX rb ra fun z hz => ⟨hz, hf z hz⟩) ?_
  rw [show (va.length == vb.length && allE f g l) = allE f g l from by rw [hl]; simp]
  exact ⟨.bl _, H, I, rfl, q⟩
theorem hitsP {P : Program} {w : World} {A : Around} {s : Shared} {vb : List (Key × Value)} : ∀ {va : List (Key × Value)} {r : Bool}, PySem.W.KeqHits A s vb va r → PySem.W.KeqHitsP P w A s vb va r := fun h => by
  induction h with
  | nil => exact .nil
  | miss h => exact .miss h
  | hit h e _ k => exact .hit h e.eqP k
theorem eqP_dicts {pins : List (Addr × Obj)} {σ : St} {H : Hp} {s : Shared} (I : Inv X pins σ H s) {A : Around} (hu : A.units < cLine) {a b : Addr} {f g : Str → V} {l : List Str} (ea : H a = some (.dK (kvX f l))) (eb : H b = some (.dK (kvX g l))) (hf : ∀ z ∈ l, flatV (f z) = true ∧ flatV (g z) = true)
    (same : a = b → allE f g l = true) : SeqAt.EqP X.prog X.w A s (.ref a) (.ref b) (allE f g l) := by
  by_cases e : a = b
  · rw [same e]
    subst e
    exact (SeqAt.EqAt.same _).eqP
  · refine SeqAt.eqP_refs e fun E Q q => ?_
    obtain ⟨_, ya, va, ra, da⟩ := (show ObjOk X.prog X.w H s.heap a (.dK (kvX f l)) from I.hok a _ ea)
    obtain ⟨_, yb, vb, rb, db⟩ := (show ObjOk X.prog X.w H s.heap b (.dK (kvX g l)) from I.hok b _ eb)
    have hl : va.length = vb.length := by rw [← ra.length, ← rb.length]; unfold kvX; rw [List.length_map, List.length_map]
    refine PySem.W.rcP_dicts (knd := mixKind X.prog X.w) (r := allE f g l) ya yb da db hu (fun _ => hitsP (hitsX rb ra fun z hz => ⟨hz, hf z hz⟩)) E Q ?_
    rw [show (va.length == vb.length && allE f g l) = allE f g l from by rw [hl]; simp]
    exact q
/-- two lists of two such dicts each -/
def rEq2X : R2 := fun x y H Q => ∃ (a b d1 d2 e1 e2 : Addr) (f1 f2 g1 g2 : Str → V) (l : List Str), x = .ref a ∧ y = .ref b ∧ H a = some (.lst [.ref d1, .ref d2]) ∧ H b = some (.lst [.ref e1, .ref e2]) ∧ H d1 = some (.dK (kvX f1 l)) ∧ H d2 = some (.dK (kvX f2 l)) ∧ H e1 = some (.dK (kvX g1 l)) ∧ H e2 = some (.dK (kvX g2 l)) ∧
  (∀ z ∈ l, flatV (f1 z) = true ∧ flatV (g1 z) = true) ∧ (∀ z ∈ l, flatV (f2 z) = true ∧ flatV (g2 z) = true) ∧ d1 ≠ e1 ∧ d2 ≠ e2 ∧ Q (.bl (allE f1 g1 l && allE f2 g2 l)) H
theorem op_eq2X (hu : X.A.units + 64 < cLine) : OpR X (compareOp .Eq) rEq2X := by
  intro pins s σ H x y v u Q I rx ry h
  obtain ⟨a, b, d1, d2, e1, e2, f1, f2, g1, g2, l, rfl, rfl, ha, hb, hd1, hd2, he1, he2, hf1, hf2, n1, n2, q⟩ := h
  obtain rfl : v = Value.ref a := rx
  obtain rfl : u = Value.ref b := ry
  obtain ⟨us, r1, p1, _⟩ := I.list (show SqL X.K H a _ from SqL.of ha)
  obtain ⟨ws, r2, p2, _⟩ := I.list (show SqL X.K H b _ from SqL.of hb)
  have hin : X.A.in1.units < cLine := by show X.A.units + 1 < cLine; omega
  obtain rfl : us = [.ref d1, .ref d2] := by
    cases r1 with
    | cons x1 t => cases t with
      | cons x2 t => cases t; cases x1; cases x2; rfl
  obtain rfl : ws = [.ref e1, .ref e2] := by
    cases r2 with
    | cons x1 t => cases t with
      | cons x2 t => cases t; cases x1; cases x2; rfl
  refine SeqAt.rcP_lists (e := fun j => if j = 0 then allE f1 g1 l else allE f2 g2 l) p1.isList p2.isList rfl (by omega) (fun j h1 h2 => ?_) _ _ ?_
  · match j, h1 with
    | 0, _ => exact eqP_dicts I hin hd1 he1 hf1 fun e => absurd e n1
    | 1, _ => exact eqP_dicts I hin hd2 he2 hf2 fun e => absurd e n2
  · refine ⟨.bl _, H, I, rfl, ?_⟩
    have e : ((List.range #[Value.ref d1, Value.ref d2].size).all fun j => if j = 0 then allE f1 g1 l else allE f2 g2 l) = (allE f1 g1 l && allE f2 g2 l) := by
      show ((List.range 2).all fun j => if j = 0 then allE f1 g1 l else allE f2 g2 l) = _
      simp [List.range, List.range.loop]
    show Q (.bl ((List.range #[Value.ref d1, Value.ref d2].size).all fun j => if j = 0 then allE f1 g1 l else allE f2 g2 l)) H
    rw [e]
    exact q
theorem pt_weak {e : Expr} {t : TT} (h : PT X e t) : PT X e (fun σ H Q => ∃ R : Bool → Hp → Prop, t σ H R ∧ ∀ b H', R b H' → Q b H') := ⟨fun pins s σ H Q I ⟨R, h1, h2⟩ => thn (h.run pins s σ H R I h1) fun u s1 ⟨H1, I1, q⟩ => ⟨H1, I1, h2 _ _ q⟩⟩
theorem pe_weak {e : Expr} {te : TE} (h : PE X e te) : PE X e (fun σ H Q => ∃ R : VK, te σ H R ∧ ∀ v H', R v H' → Q v H') := ⟨fun pins s σ H Q I ⟨R, h1, h2⟩ => thn (h.run pins s σ H R I h1) fun u s1 ⟨x, H1, I1, rx, q⟩ => ⟨x, H1, I1, rx, h2 _ _ q⟩⟩
end
end Ts

set_option maxRecDepth 100000
namespace Ts
open PySem L2
def top (i : Nat) : Stmt := PySem.Challenge.pw_turnsets_k49_whole_counts.main.body.getD i (.Pass ⟨0, 0, 0, 0⟩)
abbrev s__wall : Stmt := top 0
abbrev s_BadRow_init : Stmt := inClass (top 3) 0
abbrev s_NoBox_init : Stmt := inClass (top 4) 0
abbrev s_Locked_init : Stmt := inClass (top 6) 0
abbrev s_BadRange_init : Stmt := inClass (top 8) 0
abbrev s_is_name : Stmt := top 16
abbrev s_is_number : Stmt := top 17
abbrev s_is_price : Stmt := top 18
abbrev s_is_row : Stmt := top 19
abbrev s_check_rows : Stmt := top 20
abbrev s_check_box : Stmt := top 21
abbrev s_is_place : Stmt := top 22
abbrev s_check_place : Stmt := top 23
abbrev s_Tree_init : Stmt := inClass (top 24) 0
abbrev s_Tree_eq : Stmt := inClass (top 24) 1
abbrev s_Tree_len : Stmt := inClass (top 24) 2
abbrev s_Tree_contains : Stmt := inClass (top 24) 3
abbrev s_Tree_rows : Stmt := inClass (top 24) 4
abbrev s_Tree_folder : Stmt := inClass (top 24) 5
abbrev s_Tree_kind : Stmt := inClass (top 24) 6
abbrev s_Tree_price : Stmt := inClass (top 24) 7
abbrev s_Tree_inside : Stmt := inClass (top 24) 8
abbrev s_Tree_below : Stmt := inClass (top 24) 9
abbrev s_Tree_way : Stmt := inClass (top 24) 10
abbrev s_Tree_steps : Stmt := inClass (top 24) 11
abbrev s_Tree_more : Stmt := inClass (top 24) 12
abbrev s_Tree_less : Stmt := inClass (top 24) 13
abbrev s_Tree_moved : Stmt := inClass (top 24) 14
abbrev s_Tree_opened : Stmt := inClass (top 24) 15
abbrev s_check_turns : Stmt := top 26
abbrev s_check_trees : Stmt := top 27
abbrev s_values_of : Stmt := top 28
abbrev s_with_values : Stmt := top 29
abbrev s_Meaning_init : Stmt := inClass (top 30) 0
abbrev s_Meaning_eq : Stmt := inClass (top 30) 1
abbrev s_Meaning_len : Stmt := inClass (top 30) 2
abbrev s_Meaning_iter : Stmt := inClass (top 30) 3
abbrev s_Meaning_contains : Stmt := inClass (top 30) 4
abbrev s_Meaning_xor : Stmt := inClass (top 30) 5
abbrev s_Meaning_and : Stmt := inClass (top 30) 6
abbrev s_Meaning_or : Stmt := inClass (top 30) 7
abbrev s_Meaning_sub : Stmt := inClass (top 30) 8
abbrev s_Meaning_invert : Stmt := inClass (top 30) 9
abbrev s_Meaning_value : Stmt := inClass (top 30) 10
abbrev s_Meaning_states : Stmt := inClass (top 30) 11
abbrev s_Meaning_price : Stmt := inClass (top 30) 12
abbrev s_is_range : Stmt := top 39
abbrev s_check_ranges : Stmt := top 40
abbrev s_ranges_of : Stmt := top 41
abbrev s_number_within : Stmt := top 42
abbrev s_shown : Stmt := top 43
abbrev s_may_have : Stmt := top 44
abbrev s_Counts_init : Stmt := inClass (top 45) 0
abbrev s_Counts_on : Stmt := inClass (top 45) 1
abbrev s_Counts_off : Stmt := inClass (top 45) 2
abbrev s_Counts_shows : Stmt := inClass (top 45) 3
abbrev s_Counts_asks : Stmt := inClass (top 45) 4
abbrev s_L_stream : Stmt := top 47
abbrev s_L_draw : Stmt := top 48
abbrev s_L_pick : Stmt := top 49
abbrev s_L_name : Stmt := top 50
abbrev s_L_rows : Stmt := top 51
abbrev s_L_way : Stmt := top 52
abbrev s_L_some : Stmt := top 53
abbrev s_L_open : Stmt := top 54
abbrev s_L_beneath : Stmt := top 55
abbrev s_L_meaning : Stmt := top 56
abbrev s_L_with : Stmt := top 57
abbrev s_L_range : Stmt := top 58
abbrev s_L_shown : Stmt := top 59
abbrev s_L_total : Stmt := top 60
abbrev s_L_within : Stmt := top 61
abbrev s_L_held : Stmt := top 62
abbrev s_L_counted : Stmt := top 63
abbrev s_L_numbers : Stmt := top 64
abbrev s_L_all_numbers : Stmt := top 65
abbrev s_L_side_shows : Stmt := top 66
abbrev s_L_hangs : Stmt := top 67
abbrev s_L_box_right : Stmt := top 68
abbrev s_law : Stmt := top 69
end Ts

set_option maxRecDepth 100000
set_option maxHeartbeats 4000000
namespace Ts
open PySem L2
/-! ### how a def stands -/
structure DefAt (K : PySem.W.Frag) (mg : Str → Option Value) (x : Str) (st : Stmt) (ps : List Str) where
  f : Addr
  fd : FuncData
  F : Fun K x x st f fd
  b : Binds K fd ps []
  g : mg x = some (.ref f)
structure MethAt (K : PySem.W.Frag) (C : Addr) (x q : Str) (st : Stmt) (ps : List Str) where
  f : Addr
  fd : FuncData
  F : Fun K x q st f fd
  b : Binds K fd ps []
  m : Meth K C x f
structure TxB (mg : Str → Option Value) : Prop where
  len : mg "len" = none
  abs : mg "abs" = none
  int : mg "int" = none
  str : mg "str" = none
  bool : mg "bool" = none
  list : mg "list" = none
  tuple : mg "tuple" = none
  dict : mg "dict" = none
  range : mg "range" = none
  enumerate : mg "enumerate" = none
  isinstance : mg "isinstance" = none
  all : mg "all" = none
theorem lk {l : List (Option V)} {i : Nat} {v : V} (h : l[i]? = some (some v)) : l[i]? = some (some v) := h
/-! ### the draws -/
/-- all but a is kept -/
def SB (a : Addr) (H H' : Hp) : Prop := ∀ b o, b ≠ a → H b = some o → H' b = some o
theorem SB.refl (a : Addr) (H : Hp) : SB a H H := fun _ _ _ h => h
theorem SB.trans {a : Addr} {H H1 H2 : Hp} (x : SB a H H1) (y : SB a H1 H2) : SB a H H2 := fun b o n h => y b o n (x b o n h)
theorem SB.of {a : Addr} {H H' : Hp} (x : Same H H') : SB a H H' := fun b o _ h => x b o h
theorem Same.new {H : Hp} {p : Addr} {o : HO} (h : H p = none) : Same H (upd H p o) := fun b u e => by rw [upd_ne (ne_of_none e h)]; exact e
theorem SB.upd {a p : Addr} {H : Hp} {o : HO} (h : H p = none) : SB a H (L2.upd H p o) := SB.of (Same.new h)
theorem SB.seqL {K : PySem.W.Frag} {a l : Addr} {H H' : Hp} {xs : List V} (x : SB a H H') (n : l ≠ a) (h : SqL K H l xs) : SqL K H' l xs := by
  rcases h with (h | ⟨o, h⟩) | h
  · exact .inl (.inl (x _ _ n h))
  · exact .inl (.inr ⟨o, x _ _ n h⟩)
  · exact .inr h
theorem SB.free {a b : Addr} {H H' : Hp} (x : SB a H H') (n : b ≠ a) (h : H' b = none) : H b = none := by
  cases q : H b with
  | none => rfl
  | some o =>
    rw [x b o n q] at h
    cases h
/-- at a a stream of draws of which at most n are mixed numbers -/
def Stm (H : Hp) (a : Addr) (n : Int) : Prop := ∃ x y z : Int, H a = some (.lst [.int x, .int y, .int z]) ∧ 0 ≤ x ∧ 0 ≤ y ∧ y < 1099511627776 ∧ 0 ≤ z ∧ z ≤ n
theorem Stm.mono {H : Hp} {a : Addr} {n m : Int} (h : Stm H a n) (k : n ≤ m) : Stm H a m := by
  obtain ⟨x, y, z, e, h1, h2, h3, h4, h5⟩ := h
  exact ⟨x, y, z, e, h1, h2, h3, h4, Int.le_trans h5 k⟩
theorem Stm.ne {H : Hp} {a p : Addr} {n : Int} (h : Stm H a n) (hp : H p = none) : a ≠ p := by
  obtain ⟨x, y, z, e, _⟩ := h
  exact ne_of_none e hp
theorem Stm.same {H H' : Hp} {a : Addr} {n : Int} (h : Stm H a n) (s : Same H H') : Stm H' a n := by
  obtain ⟨x, y, z, e, r⟩ := h
  exact ⟨x, y, z, s _ _ e, r⟩
theorem Stm.upd {H : Hp} {a p : Addr} {o : HO} {n : Int} (h : Stm H a n) (hp : H p = none) : Stm (upd H p o) a n := h.same (Same.new hp)
theorem ne_lit {i : Int} (h : i ≠ 0) : i ≠ 0 := h
theorem fm_in (q : Int) {m : Int} (h : 1 ≤ m) : 0 ≤ q.fmod m ∧ q.fmod m < m := by
  rw [Int.fmod_eq_emod_of_nonneg q (by omega)]
  exact ⟨Int.emod_nonneg _ (by omega), Int.emod_lt_of_pos _ (by omega)⟩
def spStream (K : PySem.W.Frag) : Sp := fun vs H Q _ => ∃ (a : Addr) (ns : List Int) (k : Int), vs = [.ref a, .int k] ∧ SqL K H a (ns.map V.int) ∧ 0 ≤ k ∧ k ≤ 1000 ∧
  ∀ (p : Addr) (x y : Int), H p = none → 0 ≤ x → 0 ≤ y → y < 1099511627776 → Q (.ref p) (upd H p (.lst [.int x, .int y, .int 0]))
def spDraw : Sp := fun vs H Q _ => ∃ (a : Addr) (m n : Int), vs = [.ref a, .int m] ∧ Stm H a n ∧ n ≤ 1099511627776 ∧ 1 ≤ m ∧ m ≤ 1000000 ∧
  ∀ (r : Int) (H' : Hp), 0 ≤ r → r < m → Stm H' a (n + 1) → (∀ b, b ≠ a → H' b = H b) → Q (.int r) H'
section
variable {P : Program} {w : World} {K : PySem.W.Frag} {mg : Str → Option Value} {base : Heap}
theorem sc_stream : FnScope ["_law_script", "_law_k", "_law_cell"] ["_law_script", "_law_k"] (defScope s_L_stream) := ⟨rfl, rfl, rfl, by decide +kernel, rfl, by decide +kernel, by decide +kernel⟩
theorem ok_stream (D : DefAt K mg "_law_stream" s_L_stream ["_law_script", "_law_k"]) (B : TxB mg) : FnOk P w K mg base CX0 2 D.f D.fd ["_law_script", "_law_k"] (spStream K) := by
  refine D.F.ok sc_stream (fun vs H Q E h => ?_) (fun cdv A outer s H vs Q E hr h => ?_)
  · obtain ⟨a, ns, k, rfl, _⟩ := h
    rfl
  · obtain ⟨a, ns, k, rfl, hS, h0, h1, hq⟩ := h
    refine ⟨_, pss_cons (ps_set (i := 2) sc_stream.nd rfl (.inl rfl) (pe_ifExp (pt_cmpR op_lt (pv 1) (pe_callB call_len_seq (by rfl) B.len PySem.boot_len (pa_cons (pv 0) pa_nil)) (nomark _)) (pe_callB call_abs (by rfl) B.abs (by decide +kernel) (pa_cons (pe_ix ix_list (pv 0) (pv 1) (fun _ _ => rfl)) pa_nil)) pe_int))
      (pss_one (ps_ret (pe_lst (pa_cons (pe_ifExp (pt_cmpR op_ge (pv 2) (pe_op op_pow pe_int pe_int) (nomark _)) (pv 2) pe_int) (pa_cons (pe_op op_add (pe_op op_modN (pe_callTy call_int1 (by rfl) B.int (by decide +kernel) (pa_cons (pv 2) pa_nil)) pe_int) (pe_op op_mul pe_int (pv 1))) (pa_cons pe_int pa_nil)))))), ?_⟩
    refine ⟨_, rfl, _, rfl, a, _, rfl, .inl hS, _, _, rfl, rfl, _, rfl, ?_⟩
    have fin : ∀ c : Int, 0 ≤ c → 0 ≤ c.fmod 2147483647 + 31 * k ∧ c.fmod 2147483647 + 31 * k < 1099511627776 := fun c hc => by
      have e := Int.fmod_eq_emod_of_nonneg c (show (0 : Int) ≤ 2147483647 by decide)
      omega
    refine ite2 (fun h => ?_) (fun h => ?_)
    · have hlt := of_decide_eq_true h
      rw [List.length_map] at hlt
      obtain ⟨v, hv⟩ : ∃ v, ns[k.toNat]? = some v := ⟨ns[k.toNat]'(by omega), List.getElem?_eq_getElem (by omega)⟩
      refine ⟨_, rfl, _, rfl, a, _, _, .int v, rfl, rfl, hS, at_of (j := k.toNat) (by omega) (by rw [List.getElem?_map, hv]; rfl), _, rfl, ?_⟩
      have hc : (0 : Int) ≤ if v < 0 then -v else v := by split <;> omega
      generalize (if v < 0 then -v else v) = c at hc
      refine ⟨_, rfl, _, _, rfl, rfl, ⟨by decide, by decide, by decide⟩, _, _, rfl, rfl, _, rfl, ?_⟩
      refine ite2 (fun h => ?_) (fun h => ?_)
      · exact ⟨_, rfl, _, rfl, .inl ⟨_, rfl, _, _, rfl, rfl, ne_lit (by decide), _, rfl, _, _, rfl, rfl, .inl ⟨by decide, by decide⟩, _, _, rfl, rfl, (by show 3 ≤ sizeLine; decide), fun p hp => hq p _ _ hp hc (fin c hc).1 (fin c hc).2⟩⟩
      · exact ⟨_, rfl, .inl ⟨_, rfl, _, _, rfl, rfl, ne_lit (by decide), _, rfl, _, _, rfl, rfl, .inl ⟨by decide, by decide⟩, _, _, rfl, rfl, (by show 3 ≤ sizeLine; decide), fun p hp => hq p _ _ hp (by decide) (fin c hc).1 (fin c hc).2⟩⟩
    · have hc : (0 : Int) ≤ 0 := Int.le_refl 0
      refine ⟨_, rfl, _, _, rfl, rfl, ⟨by decide, by decide, by decide⟩, _, _, rfl, rfl, _, rfl, ?_⟩
      refine ite2 (fun h => ?_) (fun h => ?_)
      · exact ⟨_, rfl, _, rfl, .inl ⟨_, rfl, _, _, rfl, rfl, ne_lit (by decide), _, rfl, _, _, rfl, rfl, .inl ⟨by decide, by decide⟩, _, _, rfl, rfl, (by show 3 ≤ sizeLine; decide), fun p hp => hq p _ _ hp hc (fin 0 hc).1 (fin 0 hc).2⟩⟩
      · exact ⟨_, rfl, .inl ⟨_, rfl, _, _, rfl, rfl, ne_lit (by decide), _, rfl, _, _, rfl, rfl, .inl ⟨by decide, by decide⟩, _, _, rfl, rfl, (by show 3 ≤ sizeLine; decide), fun p hp => hq p _ _ hp (by decide) (fin 0 hc).1 (fin 0 hc).2⟩⟩
theorem sc_draw : FnScope ["_law_stream_here", "_law_many", "_law_digit", "_law_spread"] ["_law_stream_here", "_law_many"] (defScope s_L_draw) := ⟨rfl, rfl, rfl, by decide +kernel, rfl, by decide +kernel, by decide +kernel⟩
theorem ok_draw (D : DefAt K mg "_law_draw" s_L_draw ["_law_stream_here", "_law_many"]) (B : TxB mg) : FnOk P w K mg base CX0 2 D.f D.fd ["_law_stream_here", "_law_many"] spDraw := by
  refine D.F.ok sc_draw (fun vs H Q E h => ?_) (fun cdv A outer s H vs Q E hr h => ?_)
  · obtain ⟨a, m, n, rfl, _⟩ := h
    rfl
  · obtain ⟨a, m, n, rfl, ⟨x, y, z, e, hx, hy, hy1, hz, hzn⟩, hn, hm, hm1, hq⟩ := h
    have eS := SqL.of (K := K) e
    refine ⟨_, pss_cons (ps_if (pt_cmpR op_gt (pe_ix ix_list (pv 0) pe_int (fun _ _ => rfl)) pe_int (nomark _))
        (pss_cons (ps_set (i := 2) sc_draw.nd rfl (.inl rfl) (pe_op op_modN (pe_callTy call_int1 (by rfl) B.int (by decide +kernel) (pa_cons (pe_ix ix_list (pv 0) pe_int (fun _ _ => rfl)) pa_nil)) (pv 1)))
        (pss_cons (ps_asg (pe_op op_fdivN (pe_ix ix_list (pv 0) pe_int (fun _ _ => rfl)) (pv 1)) (pg_sub (pv 0) pe_int set_list))
        (pss_one (ps_ret (pv 2))))) pss_nil)
      (pss_cons (ps_asg (pe_op op_add (pe_ix ix_list (pv 0) pe_int (fun _ _ => rfl)) pe_int) (pg_sub (pv 0) pe_int set_list))
      (pss_cons (ps_set (i := 3) sc_draw.nd rfl (.inl rfl) (pe_op op_modN (pe_op op_pow (pe_callTy call_int1 (by rfl) B.int (by decide +kernel) (pa_cons (pe_op op_add (pe_op op_add (pe_ix ix_list (pv 0) pe_int (fun _ _ => rfl)) (pe_op op_mul pe_int (pe_ix ix_list (pv 0) pe_int (fun _ _ => rfl)))) pe_int) pa_nil)) pe_int) pe_int))
      (pss_one (ps_ret (pe_op op_modN (pe_op op_fdivN (pe_op op_modN (pe_callTy call_int1 (by rfl) B.int (by decide +kernel) (pa_cons (pe_op op_mul (pe_op op_add (pv 3) (pe_ix ix_list (pv 0) pe_int (fun _ _ => rfl))) pe_int) pa_nil)) pe_int) pe_int) (pv 1)))))), ?_⟩
    have g0 : ∀ x y z : Int, atI [V.int x, .int y, .int z] 0 = some (.int x) := fun _ _ _ => rfl
    have g1 : ∀ x y z : Int, atI [V.int x, .int y, .int z] 1 = some (.int y) := fun _ _ _ => rfl
    have g2 : ∀ x y z : Int, atI [V.int x, .int y, .int z] 2 = some (.int z) := fun _ _ _ => rfl
    refine ⟨_, rfl, a, _, _, _, rfl, rfl, eS, g0 _ _ _, _, _, rfl, rfl, _, rfl, ?_⟩
    refine ite2 (fun h => ?_) (fun h => ?_)
    · have hx0 := of_decide_eq_true h
      refine ⟨_, rfl, a, _, _, _, rfl, rfl, eS, g0 _ _ _, .inl ⟨_, rfl, _, rfl, _, _, rfl, rfl, (by omega), ?_⟩⟩
      refine ⟨_, rfl, a, _, _, _, rfl, rfl, eS, g0 _ _ _, _, rfl, _, _, rfl, rfl, ⟨by omega, by omega⟩, _, rfl, a, _, _, 0, rfl, rfl, e, rfl, _, rfl, ?_⟩
      have e2 := Int.fdiv_eq_ediv_of_nonneg x (show (0 : Int) ≤ m by omega)
      exact hq _ _ (fm_in _ hm).1 (fm_in _ hm).2 ⟨x.fdiv m, y, z, upd_same, by rw [e2]; exact Int.ediv_nonneg hx (by omega), hy, hy1, hz, by omega⟩ fun b hb => upd_ne hb
    · refine ⟨_, rfl, a, _, _, _, rfl, rfl, eS, g2 _ _ _, _, _, rfl, rfl, _, rfl, a, _, _, 2, rfl, rfl, e, rfl, ?_⟩
      have e' : (upd H a (.lst [V.int x, .int y, .int (z + 1)])) a = some (.lst [V.int x, .int y, .int (z + 1)]) := upd_same
      have eS' := SqL.of (K := K) e'
      refine ⟨_, rfl, a, _, _, _, rfl, rfl, eS', g1 _ _ _, _, rfl, a, _, _, _, rfl, rfl, eS', g2 _ _ _, _, _, rfl, rfl, .inl ⟨by decide, by decide⟩, _, _, rfl, rfl, _, _, rfl, rfl, .inl ⟨_, rfl, _, _, rfl, rfl, ⟨by decide, by decide, by omega⟩, _, _, rfl, rfl, ne_lit (by decide), ?_⟩⟩
      have e3 := Int.fmod_eq_emod_of_nonneg ((y + 7919 * (z + 1) + 104729) ^ (5 : Int).toNat) (show (0 : Int) ≤ 2147483647 by decide)
      generalize (y + 7919 * (z + 1) + 104729) ^ (5 : Int).toNat = g at e3
      have b1 := Int.emod_nonneg g (show (2147483647 : Int) ≠ 0 by decide)
      have b2 := Int.emod_lt_of_pos g (show (0 : Int) < 2147483647 by decide)
      rw [← e3] at b1 b2
      generalize g.fmod 2147483647 = u at b1 b2
      refine ⟨_, rfl, _, rfl, a, _, _, _, rfl, rfl, eS', g2 _ _ _, _, _, rfl, rfl, _, _, rfl, rfl, .inl ⟨by omega, by omega⟩, .inl ⟨_, rfl, _, _, rfl, rfl, ne_lit (by decide), _, _, rfl, rfl, ⟨by decide, by decide⟩, _, rfl, _, _, rfl, rfl, by omega, ?_⟩⟩
      exact hq _ _ (fm_in _ hm).1 (fm_in _ hm).2 ⟨x, y, z + 1, upd_same, hx, hy, hy1, by omega, by omega⟩ fun b hb => upd_ne hb
end
end Ts

set_option maxRecDepth 100000
set_option maxHeartbeats 4000000
namespace Ts
open PySem L2
/-- an item of a list, or a sign of a text, that is drawn -/
def spPick (K : PySem.W.Frag) : Sp := fun vs H Q _ =>
  (∃ (a l : Addr) (n : Int) (xs : List V), vs = [.ref a, .ref l] ∧ Stm H a n ∧ n ≤ 1099511627776 ∧ l ≠ a ∧ SqL K H l xs ∧ 1 ≤ xs.length ∧ xs.length ≤ 1000000 ∧
    ∀ (v : V) (H' : Hp), v ∈ xs → Stm H' a (n + 1) → SB a H H' → (∀ b, H b = none → H' b = none) → Q v H') ∨
  (∃ (a : Addr) (z : Str) (n : Int), vs = [.ref a, .str z] ∧ Stm H a n ∧ n ≤ 1099511627776 ∧ 1 ≤ z.length ∧ z.length ≤ 1000000 ∧
    ∀ (c : Nat) (H' : Hp), c ∈ z.cps.toList → Stm H' a (n + 1) → SB a H H' → (∀ b, H b = none → H' b = none) → Q (.str ⟨#[c]⟩) H')
theorem sb_eq {a : Addr} {H H' : Hp} (h : ∀ b, b ≠ a → H' b = H b) : SB a H H' := fun b o n e => by rw [h b n]; exact e
theorem free_eq {a : Addr} {n : Int} {H H' : Hp} (s : Stm H a n) (h : ∀ b, b ≠ a → H' b = H b) (b : Addr) (hb : H b = none) : H' b = none := by rw [h b (s.ne hb).symm]; exact hb
/-- a name as it is drawn: 1, 2, 3 or 8 letters -/
def Low (z : Str) : Prop := ∀ c ∈ z.cps.toList, 97 ≤ c ∧ c ≤ 122
def Drawn (z : Str) : Prop := (z.length = 1 ∨ z.length = 2 ∨ z.length = 3 ∨ z.length = 8) ∧ Low z
def NameShape (z : Str) : Prop := ((z.length = 1 ∨ z.length = 2 ∨ z.length = 3 ∨ z.length = 8) ∨ z.length = 4) ∧ Low z
theorem Drawn.shape {z : Str} (h : Drawn z) : NameShape z := ⟨.inl h.1, h.2⟩
def spName : Sp := fun vs H Q _ => ∃ (a : Addr) (n : Int), vs = [.ref a] ∧ Stm H a n ∧ n ≤ 549755813888 ∧
  ∀ (z : Str) (H' : Hp), Drawn z → Stm H' a (n + 9) → SB a H H' → Q (.str z) H'
theorem abc_low : ∀ c ∈ ("abcdefghijklmnopqrstuvwxyz" : Str).cps.toList, 97 ≤ c ∧ c ≤ 122 := by decide +kernel
theorem abc_len : ("abcdefghijklmnopqrstuvwxyz" : Str).length = 26 := by decide +kernel
theorem join_empty : ∀ (ys : List Str), (Str.join ("" : Str) ys).cps.toList = (ys.map fun y => y.cps.toList).flatten
  | [] => rfl
  | [x] => by simp [Str.join]
  | x :: y :: r => by
    have ih := join_empty (y :: r)
    have e : ("" : Str).cps.toList = [] := by decide +kernel
    show ((x.cps ++ ("" : Str).cps) ++ (Str.join "" (y :: r)).cps).toList = _
    rw [Array.toList_append, Array.toList_append, ih, e]
    simp
theorem tYes_if {σ : St} {H : Hp} {A B : Hp → Prop} (h : A H) : tYes σ H (fun b H3 => if b = true then A H3 else B H3) := by
  show if true = true then A H else B H
  rw [if_pos rfl]
  exact h
/-- signs put together -/
def signs (cs : List Nat) : List Str := cs.map fun c => ⟨#[c]⟩
theorem join_signs (cs : List Nat) : (Txt.join ("" : Str) (signs cs)).cps.toList = cs := by
  rw [TL.join_eq, join_empty]
  unfold signs
  induction cs with
  | nil => rfl
  | cons c r ih =>
    simp only [List.map_cons, List.flatten_cons] at ih ⊢
    rw [ih]
    rfl
theorem len_toList (z : Str) : z.length = z.cps.toList.length := by simp [Str.length]
section
variable {P : Program} {w : World} {K : PySem.W.Frag} {mg : Str → Option Value} {base : Heap}
theorem sc_pick : FnScope ["_law_stream_here", "_law_things"] ["_law_stream_here", "_law_things"] (defScope s_L_pick) := ⟨rfl, rfl, rfl, by decide +kernel, rfl, by decide +kernel, by decide +kernel⟩
theorem ok_pick (D : DefAt K mg "_law_pick" s_L_pick ["_law_stream_here", "_law_things"]) (Dd : DefAt K mg "_law_draw" s_L_draw ["_law_stream_here", "_law_many"]) (B : TxB mg) : FnOk P w K mg base CX0 3 D.f D.fd ["_law_stream_here", "_law_things"] (spPick K) := by
  have G : FnOk P w K mg base CX0 2 Dd.f Dd.fd ["_law_stream_here", "_law_many"] spDraw := ok_draw Dd B
  refine D.F.ok sc_pick (fun vs H Q E h => ?_) (fun cdv A outer s H vs Q E hr h => ?_)
  · rcases h with ⟨a, l, n, xs, rfl, _⟩ | ⟨a, z, n, rfl, _⟩ <;> rfl
  · rcases h with ⟨a, l, n, xs, rfl, hs, hn, la, hl, h1, h2, hq⟩ | ⟨a, z, n, rfl, hs, hn, h1, h2, hq⟩
    · refine ⟨_, pss_one (ps_ret (pe_ix ix_list (pv 1) (pe_call G hr rfl Dd.g Dd.F.kp Dd.b .nil pass0 (pa_cons (pv 0) (pa_cons (pe_callB call_len_seq (by rfl) B.len PySem.boot_len (pa_cons (pv 1) pa_nil)) pa_nil))) (fun _ _ => rfl))), ?_⟩
      refine ⟨_, rfl, _, rfl, _, rfl, l, xs, rfl, .inl hl, a, xs.length, n, rfl, hs, hn, by omega, by omega, fun r H' r0 r1 hs' he => ?_⟩
      have hk : r.toNat < xs.length := by omega
      exact ⟨l, xs, r, xs[r.toNat], rfl, rfl, (sb_eq he).seqL la hl, at_of (j := r.toNat) (by omega) (List.getElem?_eq_getElem hk), hq _ _ (List.getElem_mem hk) hs' (sb_eq he) (free_eq hs he)⟩
    · refine ⟨_, pss_one (ps_ret (pe_item_str (pv 1) (pe_call G hr rfl Dd.g Dd.F.kp Dd.b .nil pass0 (pa_cons (pv 0) (pa_cons (pe_callB call_len (by rfl) B.len PySem.boot_len (pa_cons (pv 1) pa_nil)) pa_nil))) (fun _ _ => rfl))), ?_⟩
      refine ⟨_, rfl, _, rfl, _, rfl, _, z.length, rfl, ⟨Nat.le_trans h2 (by decide), rfl⟩, a, z.length, n, rfl, hs, hn, by omega, by omega, fun r H' r0 r1 hs' he => ?_⟩
      have hk : r.toNat < z.cps.size := by
        have : z.length = z.cps.size := rfl
        omega
      exact ⟨z, r, z.cps[r.toNat], rfl, rfl, r0, by omega, r1, Array.getElem?_eq_getElem hk, hq _ _ (by simp) hs' (sb_eq he) (free_eq hs he)⟩
theorem sc_name : FnScope ["_law_stream_here", "_law_size", "_law_k"] ["_law_stream_here"] (defScope s_L_name) := ⟨rfl, rfl, rfl, by decide +kernel, rfl, by decide +kernel, by decide +kernel⟩
theorem ok_name (D : DefAt K mg "_law_name" s_L_name ["_law_stream_here"]) (Dp : DefAt K mg "_law_pick" s_L_pick ["_law_stream_here", "_law_things"]) (Dd : DefAt K mg "_law_draw" s_L_draw ["_law_stream_here", "_law_many"]) (B : TxB mg) :
    FnOk P w K mg base CX0 4 D.f D.fd ["_law_stream_here"] spName := by
  have Gd : FnOk P w K mg base CX0 2 Dd.f Dd.fd ["_law_stream_here", "_law_many"] spDraw := ok_draw Dd B
  have Gp : FnOk P w K mg base CX0 3 Dp.f Dp.fd ["_law_stream_here", "_law_things"] (spPick K) := ok_pick Dp Dd B
  refine D.F.ok sc_name (fun vs H Q E h => ?_) (fun cdv A outer s H vs Q E hr h => ?_)
  · obtain ⟨a, n, rfl, _⟩ := h
    rfl
  · obtain ⟨a, n, rfl, hs, hn, hq⟩ := h
    refine ⟨_, pss_cons (ps_set (i := 1) sc_name.nd rfl (.inl rfl) (pe_ix ix_list (pe_lst (pa_cons pe_int (pa_cons pe_int (pa_cons pe_int (pa_cons pe_int (pa_cons pe_int pa_nil)))))) (pe_call Gd (hr.mono (by decide)) rfl Dd.g Dd.F.kp Dd.b .nil pass0 (pa_cons (pv 0) (pa_cons pe_int pa_nil))) (fun _ _ => rfl)))
      (pss_one (ps_ret (pe_join pe_str (pe_lc (own := [("_law_k", 2)]) (g := gName 2) (tt := tYes) (by rfl) sc_name.nd (pi_range1 (by rfl) B.range (pa_cons (pv 1) pa_nil)) (blkOk_by (N := ["_law_stream_here", "_law_size", "_law_k"]) (sc := defScope s_L_name) (by decide +kernel))
        (fun _ _ _ _ _ => pg_name (i := 2) sc_name.nd rfl (Or.inl rfl)) (fun _ _ _ _ _ => pts_nil) (fun _ _ _ _ _ => pe_call Gp hr rfl Dp.g Dp.F.kp Dp.b .nil pass0 (pa_cons (pv 0) (pa_cons pe_str pa_nil))))))), ?_⟩
    refine ⟨(by show 5 ≤ sizeLine; decide), fun l hl => ?_⟩
    refine ⟨_, rfl, a, 5, n, rfl, hs.upd hl, by omega, by decide, by decide, fun r H1 r0 r1 hs1 he1 => ?_⟩
    have la : l ≠ a := (hs.ne hl).symm
    have e1 : H1 l = some (.lst [V.int 1, .int 1, .int 2, .int 3, .int 8]) := by rw [he1 l la]; exact upd_same
    have sb1 : SB a H H1 := (SB.upd hl).trans (sb_eq he1)
    obtain ⟨m, hm, hm4⟩ : ∃ m : Int, atI [V.int 1, .int 1, .int 2, .int 3, .int 8] r = some (.int m) ∧ (m = 1 ∨ m = 2 ∨ m = 3 ∨ m = 8) := by
      obtain rfl | rfl | rfl | rfl | rfl : r = 0 ∨ r = 1 ∨ r = 2 ∨ r = 3 ∨ r = 4 := by omega
      · exact ⟨1, rfl, by decide⟩
      · exact ⟨1, rfl, by decide⟩
      · exact ⟨2, rfl, by decide⟩
      · exact ⟨3, rfl, by decide⟩
      · exact ⟨8, rfl, by decide⟩
    refine ⟨l, _, r, .int m, rfl, rfl, SqL.of e1, hm, ⟨_, rfl⟩, ?_⟩
    refine ⟨_, rfl, m, rfl, by omega, by omega, fun Dl hD => ?_⟩
    refine lc_range (lo := 0) (n := m.toNat) (fun i H2 => ∃ cs : List Nat, cs.length = i ∧ (∀ c ∈ cs, 97 ≤ c ∧ c ≤ 122) ∧ H2 Dl = some (.lst ((signs cs).map V.str)) ∧ Stm H2 a (n + 1 + i) ∧ SB a H1 H2) ?_ ?_ ?_
    · exact ⟨[], rfl, (fun c hc => by cases hc), upd_same, (by simpa using hs1.upd (o := .lst []) hD), SB.upd hD⟩
    · rintro i H2 hi ⟨cs, hcl, hlow, hDl, hs2, sb2⟩
      refine ⟨rfl, tYes_if ?_⟩
      have Da : Dl ≠ a := (hs1.ne hD).symm
      refine ⟨_, rfl, .inr ⟨a, _, _, rfl, hs2, by omega, by rw [abc_len]; decide, by rw [abc_len]; decide, fun c H3 hc hs3 sb3 _ => ?_⟩⟩
      refine ⟨(signs cs).map V.str, sb3 _ _ Da hDl, ?_, cs ++ [c], by simp [hcl], ?_, ?_, ?_, ?_⟩
      · rw [List.length_map]
        unfold signs
        rw [List.length_map, hcl]
        exact Nat.lt_of_lt_of_le hi (Nat.le_trans (show m.toNat ≤ 8 by omega) (by decide))
      · intro d hd
        rcases List.mem_append.mp hd with h | h
        · exact hlow d h
        · rw [List.mem_singleton.mp h]; exact abc_low c hc
      · rw [upd_same]; simp [signs]
      · have q := hs3
        obtain ⟨x, y, z, e, r⟩ := q
        refine ⟨x, y, z, ?_, r.1, r.2.1, r.2.2.1, r.2.2.2.1, by have := r.2.2.2.2; push_cast; omega⟩
        rw [upd_ne Da.symm]; exact e
      · intro b o hb e
        rw [upd_ne (fun q => by rw [q, hD] at e; cases e)]
        exact sb3 b o hb (sb2 b o hb e)
    · rintro H2 ⟨cs, hcl, hlow, hDl, hs2, sb2⟩
      refine ⟨_, Dl, signs cs, rfl, rfl, .inl (SqL.of hDl), ?_, ?_⟩
      · have e0 : ("" : Str).length = 0 := by decide +kernel
        rw [e0]
        have : ((signs cs).map (·.length)).sum = cs.length := by
          unfold signs
          clear hDl hcl hlow
          induction cs with
          | nil => rfl
          | cons c r ih => simp only [List.map_cons, List.sum_cons, ih, List.length_cons]; show 1 + r.length = r.length + 1; omega
        rw [this, hcl]; omega
      · refine hq _ _ ⟨?_, ?_⟩ (hs2.mono (by omega)) (sb1.trans sb2)
        · rw [len_toList, join_signs, hcl]; omega
        · intro c hc
          rw [join_signs] at hc
          exact hlow c hc
end
end Ts

set_option maxRecDepth 100000
set_option maxHeartbeats 4000000
namespace Ts
open PySem L2
/-! ### rows of trees -/
structure Row where
  nm : Str
  fo : Str
  ki : Str
  pr : Option Int
  deriving DecidableEq
def prV : Option Int → V
  | none => .non
  | some i => .int i
def rowVs (r : Row) : List V := [.str r.nm, .str r.fo, .str r.ki, prV r.pr]
structure RowsAt (H : Hp) (as : List Addr) (rs : List Row) : Prop where
  len : as.length = rs.length
  at_ : ∀ (i : Nat) (a : Addr) (r : Row), as[i]? = some a → rs[i]? = some r → H a = some (.tup (rowVs r))
theorem RowsAt.same {H H' : Hp} {as : List Addr} {rs : List Row} (h : RowsAt H as rs) (s : Same H H') : RowsAt H' as rs := ⟨h.len, fun i a r ha hr => s _ _ (h.at_ i a r ha hr)⟩
theorem RowsAt.sb {H H' : Hp} {as : List Addr} {rs : List Row} {p : Addr} {xs : List V} (h : RowsAt H as rs) (hp : H p = some (.lst xs)) (s : SB p H H') : RowsAt H' as rs :=
  ⟨h.len, fun i a r ha hr => s _ _ (fun q => by have e := h.at_ i a r ha hr; rw [q, hp] at e; cases e) (h.at_ i a r ha hr)⟩
theorem RowsAt.nil {H : Hp} : RowsAt H [] [] := ⟨rfl, fun i a r ha => by simp at ha⟩
theorem RowsAt.snoc {H : Hp} {as : List Addr} {rs : List Row} {a : Addr} {r : Row} (h : RowsAt H as rs) (ha : H a = some (.tup (rowVs r))) : RowsAt H (as ++ [a]) (rs ++ [r]) := by
  refine ⟨by simp [h.len], fun i b q hb hq => ?_⟩
  rcases Nat.lt_or_ge i as.length with hi | hi
  · rw [List.getElem?_append_left hi] at hb
    rw [List.getElem?_append_left (h.len ▸ hi)] at hq
    exact h.at_ i b q hb hq
  · rw [List.getElem?_append_right hi] at hb
    rw [List.getElem?_append_right (h.len ▸ hi)] at hq
    have e0 : i - as.length = 0 := by
      have := (List.getElem?_eq_some_iff.mp hb).1
      simp at this
      omega
    have e1 : i - rs.length = 0 := by rw [← h.len]; exact e0
    rw [e0] at hb
    rw [e1] at hq
    simp at hb hq
    subst hb; subst hq
    exact ha
def kinds3 : List Str := ["folder", "item", "shut"]
def PriceOk : Option Int → Prop
  | none => True
  | some i => 1 ≤ i
/-- what a row must be behind others -/
structure Fits (pre : List Row) (r : Row) : Prop where
  shape : NameShape r.nm
  top : r.nm ≠ ("top" : Str)
  new : r.nm ∉ pre.map (·.nm)
  home : r.fo = ("top" : Str) ∨ ∃ q ∈ pre, q.nm = r.fo ∧ q.ki = ("folder" : Str)
  kind : r.ki ∈ kinds3
  price : PriceOk r.pr
def Valid (rs : List Row) : Prop := ∀ i r, rs[i]? = some r → Fits (rs.take i) r
theorem Valid.nil : Valid [] := fun i r h => by simp at h
theorem Valid.snoc {rs : List Row} {r : Row} (h : Valid rs) (f : Fits rs r) : Valid (rs ++ [r]) := by
  intro i q hq
  rcases Nat.lt_or_ge i rs.length with hi | hi
  · rw [List.getElem?_append_left hi] at hq
    rw [List.take_append_of_le_length (Nat.le_of_lt hi)]
    exact h i q hq
  · rw [List.getElem?_append_right hi] at hq
    have e0 : i - rs.length = 0 := by
      have := (List.getElem?_eq_some_iff.mp hq).1
      simp at this
      omega
    rw [e0] at hq
    simp at hq
    subst hq
    have e : i = rs.length := by omega
    rw [e, List.take_append_of_le_length (Nat.le_refl _), List.take_length]
    exact f
/-! ### looking for texts in lists -/
theorem eqV_str (x y : Str) : eqV (.str x) (.str y) = decide (x = y) := by
  by_cases h : x = y
  · subst h
    simp [eqV]
  · simp [eqV, h]
theorem inV_strs (z : Str) : ∀ l : List Str, inV (.str z) (l.map V.str) = decide (z ∈ l)
  | [] => by simp [inV]
  | x :: l => by
    have ih := inV_strs z l
    unfold inV at ih ⊢
    rw [List.map_cons, List.any_cons, ih, eqV_str]
    by_cases h : x = z
    · subst h; simp
    · have h' : ¬ z = x := fun e => h e.symm
      simp [h, h']
theorem flat_strs (l : List Str) : (l.map V.str).all flatV = true := by
  rw [List.all_eq_true]
  intro v hv
  obtain ⟨z, _, rfl⟩ := List.mem_map.mp hv
  rfl
theorem low_cat {x y : Str} (hx : Low x) (hy : Low y) : Low (x ++ y) := by
  intro c hc
  have e : (x ++ y).cps.toList = x.cps.toList ++ y.cps.toList := by
    show (x.cps ++ y.cps).toList = _
    simp
  rw [e] at hc
  rcases List.mem_append.mp hc with h | h
  · exact hx c h
  · exact hy c h
theorem len_cat (x y : Str) : (x ++ y).length = x.length + y.length := by
  show (x.cps ++ y.cps).size = _
  simp [Str.length]
end Ts
namespace Ts
open PySem L2
/-! ### dicts by what they have -/
structure MemD (H : Hp) (d : Addr) (l : List Str) : Prop where
  ex : ∃ kv : List (Key × V), H d = some (.dK kv) ∧ (∀ z : Str, (valV kv (.inr z : Key)).isSome = decide (z ∈ l)) ∧ kv.length ≤ l.length
theorem MemD.same {H H' : Hp} {d : Addr} {l : List Str} (m : MemD H d l) (e : H' d = H d) : MemD H' d l := by
  obtain ⟨kv, h⟩ := m.ex
  exact ⟨kv, by rw [e]; exact h⟩
theorem putK_le (kv : List (Key × V)) (k : Key) (v : V) : (putK kv k v).length ≤ kv.length + 1 := by
  unfold putK
  split
  · rw [List.length_map]; exact Nat.le_succ _
  · rw [List.length_append, List.length_singleton]; exact Nat.le_refl _
theorem mem_put {kv : List (Key × V)} {l : List Str} (h : ∀ z : Str, (valV kv (.inr z : Key)).isSome = decide (z ∈ l)) (x : Str) (v : V) (z : Str) : (valV (putK kv (.inr x) v) (.inr z : Key)).isSome = decide (z ∈ l ++ [x]) := by
  rw [valV_put]
  by_cases e : z = x
  · subst e
    simp
  · have e' : ¬ (Sum.inr z : Key) = Sum.inr x := fun q => e (Sum.inr.inj q)
    rw [if_neg e', h z]
    simp [e]
theorem MemD.put {H : Hp} {d : Addr} {l : List Str} {kv : List (Key × V)} (hk : ∀ z : Str, (valV kv (.inr z : Key)).isSome = decide (z ∈ l)) (hl : kv.length ≤ l.length) (x : Str) (v : V) : MemD (upd H d (.dK (putK kv (.inr x) v))) d (l ++ [x]) :=
  ⟨_, upd_same, mem_put hk x v, by have := putK_le kv (.inr x) v; rw [List.length_append, List.length_singleton]; omega⟩
/-- rows as tuples or lists -/
structure SeqRows (H : Hp) (as : List Addr) (rs : List Row) : Prop where
  len : as.length = rs.length
  at_ : ∀ (i : Nat) (a : Addr) (r : Row), as[i]? = some a → rs[i]? = some r → H a = some (.tup (rowVs r)) ∨ H a = some (.lst (rowVs r))
theorem SeqRows.same {H H' : Hp} {as : List Addr} {rs : List Row} (h : SeqRows H as rs) (s : Same H H') : SeqRows H' as rs := ⟨h.len, fun i a r ha hr => (h.at_ i a r ha hr).imp (s _ _) (s _ _)⟩
theorem RowsAt.seq {H : Hp} {as : List Addr} {rs : List Row} (h : RowsAt H as rs) : SeqRows H as rs := ⟨h.len, fun i a r ha hr => .inl (h.at_ i a r ha hr)⟩
/-- what a row must be behind others, names and folders that stand already -/
structure FitsB (ns hs : List Str) (pre : List Row) (r : Row) : Prop where
  shape : NameShape r.nm
  top : r.nm ≠ ("top" : Str)
  new : r.nm ∉ ns ++ pre.map (·.nm)
  home : r.fo ∈ hs ++ (pre.filter fun q => decide (q.ki = ("folder" : Str))).map (·.nm)
  kind : r.ki ∈ kinds3
  price : PriceOk r.pr
theorem Fits.b {pre : List Row} {r : Row} (f : Fits pre r) : FitsB [] [("top" : Str)] pre r :=
  ⟨f.shape, f.top, by simpa using f.new, by
    rcases f.home with h | ⟨q, hq, h1, h2⟩
    · rw [h]; simp
    · refine List.mem_append.mpr (.inr (List.mem_map.mpr ⟨q, List.mem_filter.mpr ⟨hq, decide_eq_true h2⟩, h1⟩)), f.kind, f.price⟩
end Ts

set_option maxRecDepth 100000
set_option maxHeartbeats 4000000
namespace Ts
open PySem L2
def kindsL : List Str := ["folder", "folder", "item", "item", "item", "shut"]
def pricesL : List (Option Int) := [some 1, some 1, some 1, some 2, some 3, some 7, none]
def spKinds : Sp := fun vs H Q _ => vs = [] ∧ ∀ p, H p = none → Q (.ref p) (upd H p (.lst (kindsL.map V.str)))
def spPrices : Sp := fun vs H Q _ => vs = [] ∧ ∀ p, H p = none → Q (.ref p) (upd H p (.lst (pricesL.map prV)))
/-- the rows of a drawn tree: n mixed draws before, at most 13 more a row -/
def spRows (K : PySem.W.Frag) : Sp := fun vs H Q _ => ∃ (a kl pl : Addr) (many n : Int) (ks : List Str) (ps : List (Option Int)), vs = [.ref a, .int many, .ref kl, .ref pl] ∧ Stm H a n ∧ n ≤ 549755800000 ∧ 0 ≤ many ∧ many ≤ 40 ∧ kl ≠ a ∧ pl ≠ a ∧
  SqL K H kl (ks.map V.str) ∧ SqL K H pl (ps.map prV) ∧ 1 ≤ ks.length ∧ ks.length ≤ 1000 ∧ 1 ≤ ps.length ∧ ps.length ≤ 1000 ∧ (∀ k ∈ ks, k ∈ kinds3) ∧ (∀ q ∈ ps, PriceOk q) ∧
  ∀ (p : Addr) (as : List Addr) (rs : List Row) (H' : Hp), H p = none → p ≠ a → H' p = some (.lst (as.map V.ref)) → RowsAt H' as rs → Valid rs → (rs.length : Int) ≤ many → (∀ r ∈ rs, r.ki ∈ ks ∧ r.pr ∈ ps ∧ Drawn r.nm) → SB a H H' → Stm H' a (n + 13 * many) → Q (.ref p) H'
def folderNames (rs : List Row) : List Str := (rs.filter fun r => decide (r.ki = ("folder" : Str))).map (·.nm)
theorem top_len : ("top" : Str).length = 3 := by decide +kernel
theorem mem_cutV {xs : List V} {lo hi : Option Int} {v : V} (h : v ∈ cutV xs lo hi) : v ∈ xs := List.mem_of_mem_drop (List.mem_of_mem_take h)
theorem seq_ref {K : PySem.W.Frag} {H H' : Hp} {l : Addr} {xs : List V} (e : H' l = H l) (h : SqL K H l xs) : SqL K H' l xs := by
  rcases h with (h | ⟨o, h⟩) | h
  · exact .inl (.inl (by rw [e]; exact h))
  · exact .inl (.inr ⟨o, by rw [e]; exact h⟩)
  · exact .inr h
section
variable {P : Program} {w : World} {K : PySem.W.Frag} {mg : Str → Option Value} {base : Heap}
abbrev nRows : List Str := ["_law_stream_here", "_law_many", "_law_kinds", "_law_prices", "_law_rows_here", "_law_folders", "_law_names", "_law_k", "_law_name_here", "_law_kind", "_law_folder"]
theorem sc_rows : FnScope nRows ["_law_stream_here", "_law_many", "_law_kinds", "_law_prices"] (defScope s_L_rows) := ⟨rfl, rfl, rfl, by decide +kernel, rfl, by decide +kernel, by decide +kernel⟩
/-- what stands between two turns -/
structure RowsI (a p fl nl : Addr) (H0 H : Hp) (ks : List Str) (ps : List (Option Int)) (m : Int) (i : Nat) (as : List Addr) (rs : List Row) : Prop where
  hp : H p = some (.lst (as.map V.ref))
  hf : H fl = some (.lst ((("top" : Str) :: folderNames rs).map V.str))
  hn : H nl = some (.lst ((("top" : Str) :: rs.map (·.nm)).map V.str))
  rows : RowsAt H as rs
  val : Valid rs
  len : rs.length ≤ i
  mem : ∀ r ∈ rs, r.ki ∈ ks ∧ r.pr ∈ ps ∧ Drawn r.nm
  sb : SB a H0 H
  st : Stm H a m
theorem RowsI.step {a p fl nl : Addr} {H0 H H' : Hp} {ks : List Str} {ps : List (Option Int)} {m m' : Int} {i j : Nat} {as : List Addr} {rs : List Row} (h : RowsI a p fl nl H0 H ks ps m i as rs) (np : p ≠ a) (nf : fl ≠ a) (nn : nl ≠ a) (s : SB a H H') (hs : Stm H' a m') (hj : i ≤ j) :
    RowsI a p fl nl H0 H' ks ps m' j as rs := by
  obtain ⟨x, y, z, e, _⟩ := id h.st
  exact ⟨s _ _ np h.hp, s _ _ nf h.hf, s _ _ nn h.hn, h.rows.sb e s, h.val, Nat.le_trans h.len hj, h.mem, h.sb.trans s, hs⟩
theorem sign_at {z : Str} (h : Low z) {r : Int} (h0 : 0 ≤ r) (h1 : r < (z.length : Int)) : ∃ c, z.cps[r.toNat]? = some c ∧ Low ⟨#[c]⟩ := by
  have hk : r.toNat < z.cps.size := by
    have : z.length = z.cps.size := rfl
    omega
  refine ⟨z.cps[r.toNat], Array.getElem?_eq_getElem hk, fun c hc => ?_⟩
  have e : c = z.cps[r.toNat] := by simpa using hc
  rw [e]
  exact h _ (by simp)
theorem low_q : Low ("q" : Str) := by unfold Low; decide +kernel
theorem low_aj : Low ("abcdefghij" : Str) := by unfold Low; decide +kernel
theorem low_kp : Low ("klmnop" : Str) := by unfold Low; decide +kernel
theorem len_q : ("q" : Str).length = 1 := by decide +kernel
theorem len_aj : ("abcdefghij" : Str).length = 10 := by decide +kernel
theorem len_kp : ("klmnop" : Str).length = 6 := by decide +kernel
theorem szl {n : Nat} (h : n ≤ 1000) : n ≤ sizeLine := Nat.le_of_lt (small1000 h)
theorem folders_le (rs : List Row) : (folderNames rs).length ≤ rs.length := by
  unfold folderNames
  rw [List.length_map]
  exact List.length_filter_le _ _
theorem mem_folders {rs : List Row} {z : Str} (h : z ∈ folderNames rs) : ∃ q ∈ rs, q.nm = z ∧ q.ki = ("folder" : Str) := by
  obtain ⟨q, hq, e⟩ := List.mem_map.mp h
  obtain ⟨h1, h2⟩ := List.mem_filter.mp hq
  exact ⟨q, h1, e, of_decide_eq_true h2⟩
theorem folders_snoc (rs : List Row) (r : Row) : folderNames (rs ++ [r]) = folderNames rs ++ (if r.ki = ("folder" : Str) then [r.nm] else []) := by
  unfold folderNames
  rw [List.filter_append, List.map_append]
  by_cases h : r.ki = ("folder" : Str)
  · rw [if_pos h]; simp [h]
  · rw [if_neg h]; simp [h]
end
end Ts

set_option maxRecDepth 100000
set_option maxHeartbeats 4000000
namespace Ts
open PySem L2
theorem abc_uni : ∀ c ∈ List.range' 97 26, Unicode.isAlpha c = true ∧ Unicode.isLower c = true ∧ Unicode.isUpper c = false ∧ Unicode.isTitle c = false := by decide +kernel
theorem uni {c : Nat} (h : 97 ≤ c ∧ c ≤ 122) : Unicode.isAlpha c = true ∧ Unicode.isLower c = true ∧ Unicode.isUpper c = false ∧ Unicode.isTitle c = false :=
  abc_uni c (List.mem_range'_1.mpr ⟨h.1, by omega⟩)
theorem low_ascii {z : Str} (h : Low z) : Txt.isascii z = true := by
  unfold Txt.isascii
  rw [← Array.all_toList, List.all_eq_true]
  intro c hc
  have := h c hc
  simp; omega
theorem low_alpha {z : Str} (h : Low z) (h1 : 1 ≤ z.length) : Txt.isalpha z = true := by
  unfold Txt.isalpha
  rw [← Array.all_toList, Bool.and_eq_true, List.all_eq_true]
  exact ⟨decide_eq_true (by omega), fun c hc => (uni (h c hc)).1⟩
theorem low_lower {z : Str} (h : Low z) (h1 : 1 ≤ z.length) : Txt.islower z = true := by
  unfold Txt.islower
  rw [← Array.any_toList, ← Array.any_toList, Bool.and_eq_true]
  refine ⟨?_, ?_⟩
  · rw [List.any_eq_true]
    have hl : 0 < z.cps.toList.length := by rw [← len_toList]; omega
    exact ⟨z.cps.toList[0], List.getElem_mem hl, (uni (h _ (List.getElem_mem hl))).2.1⟩
  · rw [Bool.not_eq_true', List.any_eq_false]
    intro c hc
    have := uni (h c hc)
    simp [this.2.2.1, this.2.2.2]
theorem NameShape.pos {z : Str} (h : NameShape z) : 1 ≤ z.length ∧ z.length ≤ 8 := by have := h.1; omega
structure TxC (K : PySem.W.Frag) (mg : Str → Option Value) where
  top : ∃ t, mg "TOP" = some (.str "top" t)
  folder : ∃ t, mg "FOLDER" = some (.str "folder" t)
  long : ∃ t, mg "LONGEST_NAME" = some (.int 8 t)
  kindsA : Addr
  kinds : mg "KINDS" = some (.ref kindsA)
  num : DefAt K mg "is_number" s_is_number ["thing", "least"]
  kindsT : ∃ (o : Obj) (its : Array Value) (n : Nat), K.lookup kindsA = some o ∧ o.cls = .type "tuple" ∧ o.data = .seq its n ∧ its.size ≤ sizeLine ∧ Vals (kinds3.map V.str) its.toList
def spIsName : Sp := fun vs H Q _ => ∃ z, vs = [.str z] ∧ NameShape z ∧ z ≠ ("top" : Str) ∧ Q (.bl true) H
def spIsNumber : Sp := fun vs H Q _ => ∃ i n : Int, vs = [.int i, .int n] ∧ Q (.bl (decide (n ≤ i))) H
def spIsPrice : Sp := fun vs H Q _ => ∃ o, vs = [prV o] ∧ PriceOk o ∧ Q (.bl true) H
section
variable {P : Program} {w : World} {K : PySem.W.Frag} {mg : Str → Option Value} {base : Heap}
theorem sc_is_name : FnScope ["thing"] ["thing"] (defScope s_is_name) := ⟨rfl, rfl, rfl, by decide +kernel, rfl, by decide +kernel, by decide +kernel⟩
theorem ok_is_name (D : DefAt K mg "is_name" s_is_name ["thing"]) (B : TxB mg) (C : TxC K mg) : FnOk P w K mg base CX0 2 D.f D.fd ["thing"] spIsName := by
  obtain ⟨t1, gT⟩ := C.top
  obtain ⟨t2, gL⟩ := C.long
  refine D.F.ok sc_is_name (fun vs H Q E h => ?_) (fun cdv A outer s H vs Q E hr h => ?_)
  · obtain ⟨z, rfl, _⟩ := h
    rfl
  · obtain ⟨z, rfl, hz, ht, hq⟩ := h
    refine ⟨_, pss_cons (ps_if (PW.pt (pw_or (pt_not (pt_val (pe_callB call_isi (by rfl) B.isinstance (by decide +kernel) (pa_cons (pv 0) (pa_cons (pe_bltn (by rfl) B.str (by decide +kernel) (v := .ty "str") rfl) pa_nil)))))
        (pw_or (pt_cmpR op_eq (pv 0) (pe_glob (by rfl) gT (v := .str ("top" : Str)) ⟨_, rfl⟩) (nomark _)) (pw_or1 (pt_cmpR op_gt (pe_callB call_len (by rfl) B.len PySem.boot_len (pa_cons (pv 0) pa_nil)) (pe_glob (by rfl) gL (v := .int 8) ⟨_, rfl⟩) (nomark _)))))) (pss_one (ps_ret pe_bl)) pss_nil)
      (pss_one (ps_ret (pe_and (pe_m0 PySem.F.slot_str_isascii PySem.F.type_str_isascii mt_isascii (pv 0)) (pe_and (pe_m0 PySem.F.slot_str_isalpha PySem.F.type_str_isalpha mt_isalpha (pv 0)) (pe_one (pe_m0 PySem.F.slot_str_islower PySem.F.type_str_islower mt_islower (pv 0))))))), ?_⟩
    have hp := hz.pos
    refine ⟨_, rfl, _, _, _, _, true, rfl, .ty "str", .base (.str z), kit_ty (by decide +kernel), _, rfl, iteF ?_⟩
    refine ⟨_, rfl, rfl, _, rfl, ?_⟩
    rw [decide_eq_false (fun q => ht (V.str.inj q))]
    refine iteF ?_
    refine ⟨_, rfl, _, z.length, rfl, ⟨szl (by omega), rfl⟩, _, _, rfl, rfl, _, rfl, ?_⟩
    rw [decide_eq_false (by omega)]
    refine iteF ?_
    refine ⟨_, rfl, ⟨_, rfl⟩, _, rfl, rfl, trivial, _, rfl, ?_⟩
    rw [low_ascii hz.2]
    refine iteT ⟨_, rfl, ⟨_, rfl⟩, _, rfl, rfl, trivial, _, rfl, ?_⟩
    rw [low_alpha hz.2 hp.1]
    refine iteT ⟨_, rfl, ⟨_, rfl⟩, _, rfl, rfl, trivial, ?_⟩
    rw [low_lower hz.2 hp.1]
    exact hq
theorem sc_is_number : FnScope ["thing", "least"] ["thing", "least"] (defScope s_is_number) := ⟨rfl, rfl, rfl, by decide +kernel, rfl, by decide +kernel, by decide +kernel⟩
theorem ok_is_number (D : DefAt K mg "is_number" s_is_number ["thing", "least"]) (B : TxB mg) : FnOk P w K mg base CX0 1 D.f D.fd ["thing", "least"] spIsNumber := by
  refine D.F.ok sc_is_number (fun vs H Q E h => ?_) (fun cdv A outer s H vs Q E hr h => ?_)
  · obtain ⟨z, n, rfl, _⟩ := h
    rfl
  · obtain ⟨i, n, rfl, hq⟩ := h
    refine ⟨_, (pss_one (ps_ret (pe_and (pe_callB call_isi (by rfl) B.isinstance (by decide +kernel) (pa_cons (pv 0) (pa_cons (pe_bltn (by rfl) B.int (by decide +kernel) (v := .ty "int") rfl) pa_nil)))
        (pe_and (pe_not (pe_callB call_isi (by rfl) B.isinstance (by decide +kernel) (pa_cons (pv 0) (pa_cons (pe_bltn (by rfl) B.bool (by decide +kernel) (v := .ty "bool") rfl) pa_nil)))) (pe_one (pe_cmpR op_ge (pv 0) (pv 1) (nomark _))))))), ?_⟩
    refine ⟨_, rfl, _, _, _, _, true, rfl, .ty "int", .base (.int i), kit_ty (by decide +kernel), _, rfl, iteT ?_⟩
    refine ⟨_, rfl, _, _, _, _, false, rfl, .ty "bool", .base (.int i), kit_ty (by decide +kernel), _, rfl, _, rfl, iteT ?_⟩
    exact ⟨_, rfl, _, rfl, _, _, rfl, rfl, hq⟩
theorem sc_is_price : FnScope ["thing"] ["thing"] (defScope s_is_price) := ⟨rfl, rfl, rfl, by decide +kernel, rfl, by decide +kernel, by decide +kernel⟩
theorem ok_is_price (D : DefAt K mg "is_price" s_is_price ["thing"]) (B : TxB mg) (C : TxC K mg) : FnOk P w K mg base CX0 2 D.f D.fd ["thing"] spIsPrice := by
  have Gn : FnOk P w K mg base CX0 1 C.num.f C.num.fd ["thing", "least"] spIsNumber := ok_is_number C.num B
  refine D.F.ok sc_is_price (fun vs H Q E h => ?_) (fun cdv A outer s H vs Q E hr h => ?_)
  · obtain ⟨z, rfl, _⟩ := h
    rfl
  · obtain ⟨o, rfl, ho, hq⟩ := h
    refine ⟨_, (pss_one (ps_ret (pe_or (pe_cmpR op_isN (pv 0) pe_non (nomark _)) (pe_one (pe_call Gn hr rfl C.num.g C.num.F.kp C.num.b .nil pass0 (pa_cons (pv 0) (pa_cons pe_int pa_nil))))))), ?_⟩
    cases o with
    | none =>
      refine ⟨_, rfl, rfl, _, rfl, ?_⟩
      exact iteT hq
    | some i =>
      refine ⟨_, rfl, rfl, _, rfl, ?_⟩
      refine iteF ⟨_, rfl, i, 1, rfl, ?_⟩
      have hi : 1 ≤ i := ho
      rw [decide_eq_true hi]
      exact hq
end
end Ts

set_option maxRecDepth 100000
set_option maxHeartbeats 4000000
namespace Ts
open PySem L2
theorem kit_seqL {K : PySem.W.Frag} : PySem.W.kitAny K (.type "list") [.type "list", .type "tuple"] = some true := kitAny_cons (b := true) (kit_ty (by decide +kernel)) (fun e => nomatch e) fun _ => rfl
theorem kit_seqT {K : PySem.W.Frag} : PySem.W.kitAny K (.type "tuple") [.type "list", .type "tuple"] = some true := kitAny_cons (b := false) (kit_ty (by decide +kernel)) (fun _ => kitAny_cons (b := true) (kit_ty (by decide +kernel)) (fun e => nomatch e) fun _ => rfl) fun e => nomatch e
/-- a list or a tuple, made at run time -/
def Seq (H : Hp) (a : Addr) (xs : List V) : Prop := H a = some (.tup xs) ∨ H a = some (.lst xs)
theorem Seq.same {H H' : Hp} {a : Addr} {xs : List V} (h : Seq H a xs) (s : Same H H') : Seq H' a xs := h.imp (s _ _) (s _ _)
theorem Seq.ty {K : PySem.W.Frag} {H : Hp} {a : Addr} {xs : List V} (h : Seq H a xs) : ∃ t, TyX K H (.ref a) t ∧ PySem.W.kitAny K t [.type "list", .type "tuple"] = some true := by
  rcases h with h | h
  · exact ⟨_, .base (.tup h), kit_seqT⟩
  · exact ⟨_, .base (.lst h), kit_seqL⟩
theorem Seq.or {K : PySem.W.Frag} {H : Hp} {a : Addr} {xs : List V} (h : Seq H a xs) : SqL K H a xs ∨ SqT K H a xs := by
  rcases h with h | h
  · exact .inr (.inl (.inl h))
  · exact .inl (SqL.of h)
theorem sqT {K : PySem.W.Frag} {H : Hp} {a : Addr} {xs : List V} (h : H a = some (.tup xs)) : SqT K H a xs := .inl (.inl h)
/-- enumerate(x), x a list or a tuple in slot i -/
def iEnumS (i : Nat) : TI := fun σ H R => ∃ (a : Addr) (xs : List V), σ[i]? = some (some (.ref a)) ∧ Seq H a xs ∧ ∀ J, Walk J xs.length (fun H' => H' a = H a) (YPair (fun j => some (.int (j : Nat))) (fun j => xs[j]?)) → R J H
theorem pi_enumS {X : Cx} {x : Str} {px : Pos} {i : Nat} {p pos tpos : Pos} {elts : List Expr} {kk : Nat} (hg : Gl X "enumerate") (hm : X.mg "enumerate" = none) (he : PE X (.Name x px) (tVar i)) :
    PI X (.Tuple elts kk tpos) (.Call (.Name "enumerate" p) [.Name x px] [] pos) (iEnumS i) := by
  refine ⟨fun pins s σ H R I h => ?_⟩
  obtain ⟨a, xs, e1, hq, k⟩ := h
  rcases hq with hq | hq
  · exact (pi_enumT hg hm (pa_cons he pa_nil)).run pins s σ H R I ⟨_, e1, a, xs, rfl, sqT hq, k _ (walk_enumT.mono (fun H' e => sqT (e.trans hq)) fun _ _ _ _ _ _ y => y)⟩
  · exact (pi_enum hg hm (pa_cons he pa_nil)).run pins s σ H R I ⟨_, e1, a, xs, rfl, SqL.of hq, k _ (walk_enum.mono (fun H' e => SqL.of (e.trans hq)) fun _ _ _ _ _ _ y => y)⟩
/-- x itself, a list or a tuple in slot i -/
def iSeqS (i : Nat) : TI := fun σ H R => ∃ (a : Addr) (xs : List V), σ[i]? = some (some (.ref a)) ∧ Seq H a xs ∧ ∀ J, Walk J xs.length (fun H' => H' a = H a) (YAt xs) → R J H
theorem pi_seqS {X : Cx} {e tg : Expr} {i : Nat} (he : PE X e (tVar i)) : PI X tg e (iSeqS i) := by
  refine ⟨fun pins s σ H R I h => ?_⟩
  obtain ⟨a, xs, e1, hq, k⟩ := h
  rcases hq with hq | hq
  · exact (pi_tup he).run pins s σ H R I ⟨_, e1, a, rfl, ⟨_, sqT hq⟩, k _ (walk_tup.mono (fun H' e => sqT (e.trans hq)) fun _ _ _ _ _ _ y => y)⟩
  · exact (pi_list he).run pins s σ H R I ⟨_, e1, a, rfl, ⟨_, SqL.of hq⟩, k _ (walk_list.mono (fun H' e => SqL.of (e.trans hq)) fun _ _ _ _ _ _ y => y)⟩
theorem take_more {α : Type} : ∀ {l : List α} {i : Nat} {x : α}, l[i]? = some x → l.take (i + 1) = l.take i ++ [x]
  | [], i, x, h => by simp at h
  | a :: l, 0, x, h => by
    have e : a = x := Option.some.inj h
    subst e
    rfl
  | a :: l, i + 1, x, h => by
    have ih := take_more (l := l) (i := i) (x := x) (by simpa using h)
    rw [List.take_succ_cons, ih]
    rfl
theorem fold_take {rs : List Row} {i : Nat} {r : Row} (h : rs[i]? = some r) : folderNames (rs.take (i + 1)) = folderNames (rs.take i) ++ (if r.ki = ("folder" : Str) then [r.nm] else []) := by
  rw [take_more h, folders_snoc]
def spIsRow : Sp := fun vs H Q _ => ∃ (a d1 d2 : Addr) (r : Row) (kv1 kv2 : List (Key × V)), vs = [.ref a, .ref d1, .ref d2] ∧ Seq H a (rowVs r) ∧ H d1 = some (.dK kv1) ∧ valV kv1 (.inr r.nm : Key) = none ∧ H d2 = some (.dK kv2) ∧ (valV kv2 (.inr r.fo : Key)).isSome = true ∧
  NameShape r.nm ∧ r.nm ≠ ("top" : Str) ∧ r.ki ∈ kinds3 ∧ PriceOk r.pr ∧ ∀ H', Same H H' → Q (.bl true) H'
def spCheckRows (K : PySem.W.Frag) : Sp := fun vs H Q _ => ∃ (rw nm fo : Addr) (ns hs : List Str) (as : List Addr) (rs : List Row), vs = [.ref rw, .ref nm, .ref fo] ∧ Seq H rw (as.map V.ref) ∧ SeqRows H as rs ∧ SqT K H nm (ns.map V.str) ∧ SqT K H fo (hs.map V.str) ∧ rs.length ≤ 100 ∧ ns.length ≤ 100 ∧ hs.length ≤ 100 ∧
  (∀ i r, rs[i]? = some r → FitsB ns hs (rs.take i) r) ∧ ∀ H', Same H H' → Q .non H'
section
variable {P : Program} {w : World} {K : PySem.W.Frag} {mg : Str → Option Value} {base : Heap}
abbrev nIsRow : List Str := ["thing", "taken", "homes", "name", "folder", "kind", "price"]
theorem sc_is_row : FnScope nIsRow ["thing", "taken", "homes"] (defScope s_is_row) := ⟨rfl, rfl, rfl, by decide +kernel, rfl, by decide +kernel, by decide +kernel⟩
theorem ok_is_row (D : DefAt K mg "is_row" s_is_row ["thing", "taken", "homes"]) (Dn : DefAt K mg "is_name" s_is_name ["thing"]) (Dp : DefAt K mg "is_price" s_is_price ["thing"]) (B : TxB mg) (C : TxC K mg) : FnOk P w K mg base CX0 3 D.f D.fd ["thing", "taken", "homes"] spIsRow := by
  have Gn : FnOk P w K mg base CX0 2 Dn.f Dn.fd ["thing"] spIsName := ok_is_name Dn B C
  have Gp : FnOk P w K mg base CX0 2 Dp.f Dp.fd ["thing"] spIsPrice := ok_is_price Dp B C
  refine D.F.ok sc_is_row (fun vs H Q E h => ?_) (fun cdv A outer s H vs Q E hr h => ?_)
  · obtain ⟨a, d1, d2, r, kv1, kv2, rfl, _⟩ := h
    rfl
  · obtain ⟨a, d1, d2, r, kv1, kv2, rfl, ha, h1, v1, h2, v2, hn, ht, hk, hp, hq⟩ := h
    have hu := hu_of hr
    refine ⟨_, pss_cons (ps_if (PW.pt (pw_or (pt_not (pt_val (pe_callB call_isiT (by rfl) B.isinstance (by decide +kernel) (pa_cons (pv 0) (pa_cons (pe_tup (pa_cons (pe_bltn (by rfl) B.list (by decide +kernel) (v := .ty "list") rfl) (pa_cons (pe_bltn (by rfl) B.tuple (by decide +kernel) (v := .ty "tuple") rfl) pa_nil))) pa_nil)))))
        (pw_or1 (pt_cmpR op_ne (pe_callB call_len_seq (by rfl) B.len PySem.boot_len (pa_cons (pv 0) pa_nil)) pe_int (nomark _))))) (pss_one (ps_ret pe_bl)) pss_nil)
      (C8.pss_cut (ps_asg (pv 0) (pg_or (pg_tup rfl (pgs_cons (pg_name (i := 3) sc_is_row.nd rfl (.inl rfl)) (pgs_cons (pg_name (i := 4) sc_is_row.nd rfl (.inl rfl)) (pgs_cons (pg_name (i := 5) sc_is_row.nd rfl (.inl rfl)) (pgs_cons (pg_name (i := 6) sc_is_row.nd rfl (.inl rfl)) pgs_nil)))))
          (pg_unl rfl (pgs_cons (pg_name (i := 3) sc_is_row.nd rfl (.inl rfl)) (pgs_cons (pg_name (i := 4) sc_is_row.nd rfl (.inl rfl)) (pgs_cons (pg_name (i := 5) sc_is_row.nd rfl (.inl rfl)) (pgs_cons (pg_name (i := 6) sc_is_row.nd rfl (.inl rfl)) pgs_nil)))))))
      (pss_cons (ps_if (PW.pt (pw_or (pt_not (pt_val (pe_call Gn hr rfl Dn.g Dn.F.kp Dn.b .nil pass0 (pa_cons (pv 3) pa_nil)))) (pw_or1 (pt_cmp (pc_din hu (pv 3) (pv 1)))))) (pss_one (ps_ret pe_bl)) pss_nil)
      (pss_cons (ps_if (PW.pt (pw_or (pt_not (pt_val (pe_callB call_isi (by rfl) B.isinstance (by decide +kernel) (pa_cons (pv 4) (pa_cons (pe_bltn (by rfl) B.str (by decide +kernel) (v := .ty "str") rfl) pa_nil))))) (pw_or1 (pt_cmp (pc_dnotin hu (pv 4) (pv 2)))))) (pss_one (ps_ret pe_bl)) pss_nil)
      (pss_one (ps_ret (pe_and (pe_cmpR op_in_seq (pv 5) (pe_glob (by rfl) C.kinds (v := .ref C.kindsA) rfl) (by rfl)) (pe_one (pe_call Gp hr rfl Dp.g Dp.F.kp Dp.b .nil pass0 (pa_cons (pv 6) pa_nil)))))))))
      , ?_⟩
    refine ⟨_, rfl, (by show 2 ≤ sizeLine; decide), fun tp htp => ?_⟩
    have s1 : Same H (upd H tp (.tup [.ty "list", .ty "tuple"])) := Same.new htp
    obtain ⟨t, ty, kk⟩ := (ha.same s1).ty (K := K)
    refine ⟨_, tp, _, t, _, true, rfl, upd_same, .cons (.ty "list") (.cons (.ty "tuple") .nil), ty, kk, _, rfl, iteF ?_⟩
    refine ⟨_, rfl, a, _, rfl, (ha.same s1).or, rfl, _, rfl, ?_⟩
    refine iteF ?_
    have un : SqT K (upd H tp (.tup [.ty "list", .ty "tuple"])) a (rowVs r) ∨ SqL K (upd H tp (.tup [.ty "list", .ty "tuple"])) a (rowVs r) := (ha.same s1).or.symm
    refine ⟨fun σ' H' => σ' = [some (.ref a), some (.ref d1), some (.ref d2), some (.str r.nm), some (.str r.fo), some (.str r.ki), some (prV r.pr)] ∧ H' = upd H tp (.tup [.ty "list", .ty "tuple"]), ?_, ?_⟩
    · refine ⟨_, rfl, ?_⟩
      rcases un with un | un
      · exact .inl ⟨a, _, rfl, un, rfl, _, _, rfl, _, _, rfl, _, _, rfl, _, _, rfl, rfl, rfl, rfl⟩
      · exact .inr ⟨a, _, rfl, un, rfl, _, _, rfl, _, _, rfl, _, _, rfl, _, _, rfl, rfl, rfl, rfl⟩
    rintro σ' H' ⟨rfl, rfl⟩
    refine ⟨_, rfl, r.nm, rfl, hn, ht, _, rfl, iteF ?_⟩
    refine ⟨_, rfl, _, rfl, d1, _, rfl, DGet.k (k := Sum.inr r.nm) (s1 _ _ h1), _, rfl, ?_⟩
    rw [v1]
    refine iteF ?_
    refine ⟨_, rfl, _, _, _, _, true, rfl, .ty "str", .base (.str r.fo), kit_ty (by decide +kernel), _, rfl, iteF ?_⟩
    refine ⟨_, rfl, _, rfl, d2, _, rfl, DGet.k (k := Sum.inr r.fo) (s1 _ _ h2), _, rfl, ?_⟩
    rw [v2]
    refine iteF ?_
    refine ⟨_, rfl, C.kindsA, _, rfl, .inr (.inr C.kindsT), rfl, flat_strs _, _, rfl, ?_⟩
    have e : (if false = true then !inV (.str r.ki) (kinds3.map V.str) else inV (.str r.ki) (kinds3.map V.str)) = true := by
      rw [if_neg Bool.false_ne_true, inV_strs]
      exact decide_eq_true hk
    rw [e]
    exact iteT ⟨_, rfl, r.pr, rfl, hp, hq _ s1⟩
abbrev nCheckRows : List Str := ["rows", "names", "folders", "taken", "homes", "index", "row", "name", "folder", "kind", "price"]
theorem sc_check_rows : FnScope nCheckRows ["rows", "names", "folders"] (defScope s_check_rows) := ⟨rfl, rfl, rfl, by decide +kernel, rfl, by decide +kernel, by decide +kernel⟩
theorem ok_check_rows (D : DefAt K mg "check_rows" s_check_rows ["rows", "names", "folders"]) (Dr : DefAt K mg "is_row" s_is_row ["thing", "taken", "homes"]) (Dn : DefAt K mg "is_name" s_is_name ["thing"]) (Dp : DefAt K mg "is_price" s_is_price ["thing"]) (B : TxB mg) (C : TxC K mg) :
    FnOk P w K mg base CX0 4 D.f D.fd ["rows", "names", "folders"] (spCheckRows K) := by
  have Gr : FnOk P w K mg base CX0 3 Dr.f Dr.fd ["thing", "taken", "homes"] spIsRow := ok_is_row Dr Dn Dp B C
  obtain ⟨t1, gF⟩ := C.folder
  refine D.F.ok sc_check_rows (fun vs H Q E h => ?_) (fun cdv A outer s H vs Q E hr h => ?_)
  · obtain ⟨rw, nm, fo, ns, hs, as, rs, rfl, _⟩ := h
    rfl
  · obtain ⟨rw, nm, fo, ns, hs, as, rs, rfl, hrw, hrows, hnm, hfo, hl, hln, hlh, hfit, hq⟩ := h
    have hu := hu_of hr
    refine ⟨_, pss_cons (ps_if (pt_not (pt_val (pe_callB call_isiT (by rfl) B.isinstance (by decide +kernel) (pa_cons (pv 0) (pa_cons (pe_tup (pa_cons (pe_bltn (by rfl) B.list (by decide +kernel) (v := .ty "list") rfl) (pa_cons (pe_bltn (by rfl) B.tuple (by decide +kernel) (v := .ty "tuple") rfl) pa_nil))) pa_nil))))) (pss_one ps_never) pss_nil)
      (pss_cons (ps_setDc (i := 3) (own := [("name", 7)]) (g := gName 7) (tt := tYes) rfl sc_check_rows.nd rfl rfl (swd_true rfl rfl rfl (by decide +kernel)) (pi_tup (pv 1)) (blkOk_by (N := nCheckRows) (sc := defScope s_check_rows) (by decide +kernel))
        (fun _ _ _ _ _ => pg_name (i := 7) sc_check_rows.nd rfl (Or.inl rfl)) (fun _ _ _ _ _ => pts_nil) (fun _ _ _ _ _ => pv 7) (fun _ _ _ _ _ => pe_bl))
      (pss_cons (ps_setDc (i := 4) (own := [("folder", 8)]) (g := gName 8) (tt := tYes) rfl sc_check_rows.nd rfl rfl (swd_true rfl rfl rfl (by decide +kernel)) (pi_tup (pv 2)) (blkOk_by (N := nCheckRows) (sc := defScope s_check_rows) (by decide +kernel))
        (fun _ _ _ _ _ => pg_name (i := 8) sc_check_rows.nd rfl (Or.inl rfl)) (fun _ _ _ _ _ => pts_nil) (fun _ _ _ _ _ => pv 8) (fun _ _ _ _ _ => pe_bl))
      (pss_one (ps_for PassesOwn.never rfl (pi_enumS (by rfl) B.enumerate (pv 0)) (pg_tup rfl (pgs_cons (pg_name (i := 5) sc_check_rows.nd rfl (.inl rfl)) (pgs_cons (pg_name (i := 6) sc_check_rows.nd rfl (.inl rfl)) pgs_nil)))
        (pss_cons (ps_if (pt_not (pt_val (pe_call Gr hr rfl Dr.g Dr.F.kp Dr.b .nil pass0 (pa_cons (pv 6) (pa_cons (pv 3) (pa_cons (pv 4) pa_nil)))))) (pss_one ps_never) pss_nil)
        (C8.pss_cut (ps_asg (pv 6) (pg_or (pg_tup rfl (pgs_cons (pg_name (i := 7) sc_check_rows.nd rfl (.inl rfl)) (pgs_cons (pg_name (i := 8) sc_check_rows.nd rfl (.inl rfl)) (pgs_cons (pg_name (i := 9) sc_check_rows.nd rfl (.inl rfl)) (pgs_cons (pg_name (i := 10) sc_check_rows.nd rfl (.inl rfl)) pgs_nil)))))
          (pg_unl rfl (pgs_cons (pg_name (i := 7) sc_check_rows.nd rfl (.inl rfl)) (pgs_cons (pg_name (i := 8) sc_check_rows.nd rfl (.inl rfl)) (pgs_cons (pg_name (i := 9) sc_check_rows.nd rfl (.inl rfl)) (pgs_cons (pg_name (i := 10) sc_check_rows.nd rfl (.inl rfl)) pgs_nil)))))))
        (pss_cons (ps_dput hu (pv 3) (pv 7) pe_bl rfl)
        (pss_one (ps_if (pt_cmpR op_eq (pv 9) (pe_glob (by rfl) gF (v := .str ("folder" : Str)) ⟨_, rfl⟩) (nomark _)) (pss_one (ps_dput hu (pv 4) (pv 7) pe_bl rfl)) pss_nil)))))))))
      , ?_⟩
    refine ⟨_, rfl, (by show 2 ≤ sizeLine; decide), fun tp htp => ?_⟩
    have s1 : Same H (upd H tp (.tup [.ty "list", .ty "tuple"])) := Same.new htp
    obtain ⟨t, ty, kk⟩ := (hrw.same s1).ty (K := K)
    refine ⟨_, tp, _, t, _, true, rfl, upd_same, .cons (.ty "list") (.cons (.ty "tuple") .nil), ty, kk, _, rfl, iteF ?_⟩
    generalize upd H tp (.tup [.ty "list", .ty "tuple"]) = H1 at s1 ty
    have dict : ∀ (l : List Str) (td : Addr) (H1 H' : Hp) (i : Nat) (x : V), (l.map V.str)[i]? = some x → MemD H' td (l.take i) → ∃ (z : Str) (kv : List (Key × V)), x = .str z ∧ l[i]? = some z ∧ H' td = some (.dK kv) ∧ (∀ z : Str, (valV kv (.inr z : Key)).isSome = decide (z ∈ l.take i)) ∧ kv.length ≤ (l.take i).length := by
      intro l td H1 H' i x hx m
      rw [List.getElem?_map] at hx
      obtain ⟨z, hz, rfl⟩ := Option.map_eq_some_iff.mp hx
      obtain ⟨kv, e1, e2, e3⟩ := m.ex
      exact ⟨z, kv, rfl, hz, e1, e2, e3⟩
    refine ⟨_, rfl, nm, rfl, ⟨_, hnm.ext s1⟩, fun td htd => ?_⟩
    refine dc_tup (K := K) (a := nm) (xs := ns.map V.str) (fun i H' => Same H1 H' ∧ MemD H' td (ns.take i)) ⟨Same.new htd, [], upd_same, fun z => rfl, Nat.le_refl _⟩ (fun i H' _ m => hnm.ext (s1.trans m.1)) ?_ ?_
    · rintro i x H' hx ⟨sm, m⟩
      obtain ⟨z, kv, rfl, hz, e1, e2, e3⟩ := dict ns td H1 H' i x hx m
      refine ⟨rfl, tYes_if ⟨_, rfl, kv, .inr z, rfl, e1, small1000 (by rw [List.length_take] at e3; omega), fun b o e => ?_, ?_⟩⟩
      · rw [upd_ne (fun q => by rw [q, htd] at e; cases e)]
        exact sm b o e
      · rw [take_more hz]
        exact MemD.put e2 e3 z _
    · rintro H2 ⟨sm, m⟩
      rw [List.length_map, List.take_length] at m
      have s2 := s1.trans sm
      refine ⟨_, rfl, fo, rfl, ⟨_, hfo.ext s2⟩, fun hd hhd => ?_⟩
      have nth : td ≠ hd := by obtain ⟨kv, e1, _⟩ := m.ex; exact ne_of_none e1 hhd
      refine dc_tup (K := K) (a := fo) (xs := hs.map V.str) (fun i H' => Same H2 H' ∧ MemD H' hd (hs.take i)) ⟨Same.new hhd, [], upd_same, fun z => rfl, Nat.le_refl _⟩ (fun i H' _ m => hfo.ext (s2.trans m.1)) ?_ ?_
      · rintro i x H' hx ⟨sm, m⟩
        obtain ⟨z, kv, rfl, hz, e1, e2, e3⟩ := dict hs hd H2 H' i x hx m
        refine ⟨rfl, tYes_if ⟨_, rfl, kv, .inr z, rfl, e1, small1000 (by rw [List.length_take] at e3; omega), fun b o e => ?_, ?_⟩⟩
        · rw [upd_ne (fun q => by rw [q, hhd] at e; cases e)]
          exact sm b o e
        · rw [take_more hz]
          exact MemD.put e2 e3 z _
      · rintro H3 ⟨sm3, m3⟩
        rw [List.length_map, List.take_length] at m3
        have s3 := s2.trans sm3
        have mt : MemD H3 td ns := by
          obtain ⟨kv, e1, e⟩ := m.ex
          exact ⟨kv, sm3 _ _ e1, e⟩
        have ftd : H td = none := s1.free htd
        have fhd : H hd = none := s2.free hhd
        refine ⟨rw, _, rfl, hrw.same s3, fun J W => ?_⟩
        refine for_it W (fun i σ H' => ∃ (v5 v6 v7 v8 v9 v10 : Option V), σ = [some (.ref rw), some (.ref nm), some (.ref fo), some (.ref td), some (.ref hd), v5, v6, v7, v8, v9, v10] ∧ Same H H' ∧ H' rw = H3 rw ∧ MemD H' td (ns ++ (rs.take i).map (·.nm)) ∧ MemD H' hd (hs ++ folderNames (rs.take i))) ⟨none, none, none, none, none, none, rfl, s3, rfl, by simpa using mt, by simpa [folderNames] using m3⟩ (fun i σ H' _ ⟨_, _, _, _, _, _, _, _, e, _⟩ => e) ?_ ?_
        · rintro i x σ H4 H5 hi ⟨v5, v6, v7, v8, v9, v10, rfl, s4, e4, mt, mh⟩ ⟨T, xi, xr, rfl, hT, rfl, exi, exr⟩
          rw [List.length_map] at hi
          have exr' : (as.map V.ref)[i]? = some xr := exr
          rw [List.getElem?_map] at exr'
          obtain ⟨ra, hra, rfl⟩ := Option.map_eq_some_iff.mp exr'
          obtain ⟨r, hr'⟩ : ∃ r, rs[i]? = some r := ⟨rs[i]'(by rw [← hrows.len]; exact hi), List.getElem?_eq_getElem _⟩
          have fit := hfit i r hr'
          obtain rfl := Option.some.inj exi
          have s5 : Same H (upd H4 T (.tup [.int (i : Nat), .ref ra])) := s4.trans (Same.new hT)
          have rr : Seq (upd H4 T (.tup [.int (i : Nat), .ref ra])) ra (rowVs r) := Seq.same (hrows.at_ i ra r hra hr') s5
          obtain ⟨kt, et, pt, lt⟩ := mt.ex
          obtain ⟨kh, eh, ph, lh⟩ := mh.ex
          have nt : td ≠ T := ne_of_none et hT
          have nh : hd ≠ T := ne_of_none eh hT
          have i100 : i < 100 := by rw [← hrows.len] at hl; omega
          refine ⟨T, _, rfl, sqT upd_same, rfl, _, _, rfl, _, _, rfl, rfl, ?_⟩
          refine ⟨_, rfl, _, rfl, _, rfl, ra, td, hd, r, kt, kh, rfl, rr, by rw [upd_ne nt]; exact et, ?_, by rw [upd_ne nh]; exact eh, ?_, fit.shape, fit.top, fit.kind, fit.price, fun H6 s6 => ?_⟩
          · have q := pt r.nm
            rw [decide_eq_false fit.new] at q
            simpa using q
          · rw [ph r.fo]
            exact decide_eq_true fit.home
          refine ⟨_, rfl, iteF ?_⟩
          refine ⟨fun σ' H' => σ' = [some (.ref rw), some (.ref nm), some (.ref fo), some (.ref td), some (.ref hd), some (.int (i : Nat)), some (.ref ra), some (.str r.nm), some (.str r.fo), some (.str r.ki), some (prV r.pr)] ∧ H' = H6, ?_, ?_⟩
          · refine ⟨_, rfl, ?_⟩
            rcases rr.same s6 with un | un
            · exact .inl ⟨ra, _, rfl, sqT un, rfl, _, _, rfl, _, _, rfl, _, _, rfl, _, _, rfl, rfl, rfl, rfl⟩
            · exact .inr ⟨ra, _, rfl, SqL.of un, rfl, _, _, rfl, _, _, rfl, _, _, rfl, _, _, rfl, rfl, rfl, rfl⟩
          rintro σ' H' ⟨rfl, rfl⟩
          have et6 : H' td = some (.dK kt) := s6 _ _ (by rw [upd_ne nt]; exact et)
          have eh6 : H' hd = some (.dK kh) := s6 _ _ (by rw [upd_ne nh]; exact eh)
          have lt' : kt.length ≤ 300 := by
            rw [List.length_append, List.length_map, List.length_take] at lt; omega
          have lh' : kh.length ≤ 300 := by
            have := folders_le (rs.take i)
            rw [List.length_take] at this
            rw [List.length_append] at lh; omega
          refine ⟨_, rfl, _, rfl, td, _, rfl, DPut.k (k := Sum.inr r.nm) et6 (small1000 (by omega)), ?_⟩
          have s7 : Same H (upd H' td (.dK (putK kt (.inr r.nm) (.bl true)))) := fun b o e => by
            rw [upd_ne (fun q => by rw [q, ftd] at e; cases e)]
            exact s6 _ _ (s5 b o e)
          have mt7 : ns ++ (rs.take (i + 1)).map (·.nm) = ns ++ (rs.take i).map (·.nm) ++ [r.nm] := by rw [take_more hr', List.map_append, List.append_assoc]; rfl
          have mT : MemD (upd H' td (.dK (putK kt (.inr r.nm) (.bl true)))) td (ns ++ (rs.take (i + 1)).map (·.nm)) := by rw [mt7]; exact MemD.put pt lt _ _
          have rw4 : H4 rw = some (.tup (as.map V.ref)) ∨ H4 rw = some (.lst (as.map V.ref)) := hrw.same s4
          have keep : ∀ {b : Addr} {o : HO}, H4 b = some o → b ≠ td → (upd H' td (.dK (putK kt (.inr r.nm) (.bl true)))) b = some o := fun {b o} e nb => by
            rw [upd_ne nb]
            exact s6 _ _ (by rw [upd_ne (ne_of_none e hT)]; exact e)
          have ert : rw ≠ td := fun q => by rcases rw4 with z | z <;> (rw [q, et] at z; cases z)
          have erh : rw ≠ hd := fun q => by rcases rw4 with z | z <;> (rw [q, eh] at z; cases z)
          have erw : (upd H' td (.dK (putK kt (.inr r.nm) (.bl true)))) rw = H3 rw := by
            rw [← e4]
            rcases rw4 with z | z <;> (rw [z]; exact keep z ert)
          refine ⟨_, rfl, rfl, _, rfl, ?_⟩
          refine ite2 (fun hk => ?_) (fun hk => ?_)
          · have hk' : r.ki = ("folder" : Str) := V.str.inj (of_decide_eq_true hk)
            refine ⟨_, rfl, _, rfl, hd, _, rfl, DPut.k (k := Sum.inr r.nm) (Eq.trans (upd_ne nth.symm) eh6) (small1000 (by omega)), ?_⟩
            refine ⟨_, _, _, _, _, _, rfl, fun b o e => ?_, ?_, mT.same (upd_ne nth), ?_⟩
            · rw [upd_ne (fun q => by rw [q, fhd] at e; cases e)]
              exact s7 b o e
            · rw [upd_ne erh]; exact erw
            · rw [fold_take hr', if_pos hk', ← List.append_assoc]
              exact MemD.put ph lh _ _
          · have hk' : ¬ r.ki = ("folder" : Str) := fun q => hk (decide_eq_true (by rw [q]))
            refine ⟨_, _, _, _, _, _, rfl, s7, erw, mT, ?_⟩
            rw [fold_take hr', if_neg hk', List.append_nil]
            exact ⟨kh, Eq.trans (upd_ne nth.symm) eh6, ph, lh⟩
        · rintro σ H4 ⟨v5, v6, v7, v8, v9, v10, rfl, s4, _⟩
          exact hq _ s4
end
end Ts

set_option maxRecDepth 100000
set_option maxHeartbeats 4000000
namespace Ts
open PySem L2
/-! ### a tree as it stands -/
theorem qf_ : ¬ (("quads" : Str) = "folders") := by decide +kernel
theorem qk_ : ¬ (("quads" : Str) = "kinds") := by decide +kernel
theorem qp_ : ¬ (("quads" : Str) = "prices") := by decide +kernel
theorem fk_ : ¬ (("folders" : Str) = "kinds") := by decide +kernel
theorem fp_ : ¬ (("folders" : Str) = "prices") := by decide +kernel
theorem kp_ : ¬ (("kinds" : Str) = "prices") := by decide +kernel
def tf (q f k p : Addr) : List (Str × V) := putF "prices" (.ref p) (putF "kinds" (.ref k) (putF "folders" (.ref f) (putF "quads" (.ref q) [])))
theorem tf_q (q f k p : Addr) : (tf q f k p).lookup ("quads" : Str) = some (.ref q) := by
  unfold tf
  rw [lookup_putF, if_neg qp_, lookup_putF, if_neg qk_, lookup_putF, if_neg qf_, lookup_putF, if_pos rfl]
theorem tf_f (q f k p : Addr) : (tf q f k p).lookup ("folders" : Str) = some (.ref f) := by
  unfold tf
  rw [lookup_putF, if_neg fp_, lookup_putF, if_neg fk_, lookup_putF, if_pos rfl]
theorem tf_k (q f k p : Addr) : (tf q f k p).lookup ("kinds" : Str) = some (.ref k) := by
  unfold tf
  rw [lookup_putF, if_neg kp_, lookup_putF, if_pos rfl]
theorem tf_p (q f k p : Addr) : (tf q f k p).lookup ("prices" : Str) = some (.ref p) := by
  unfold tf
  rw [lookup_putF, if_pos rfl]
theorem tf_no (q f k p : Addr) {m : Str} (h1 : ¬ m = "quads") (h2 : ¬ m = "folders") (h3 : ¬ m = "kinds") (h4 : ¬ m = "prices") : (tf q f k p).lookup m = none := by
  unfold tf
  rw [lookup_putF, if_neg h4, lookup_putF, if_neg h3, lookup_putF, if_neg h2, lookup_putF, if_neg h1]
  rfl
theorem putF_len (n : Str) (v : V) : ∀ l : List (Str × V), (putF n v l).length ≤ l.length + 1
  | [] => Nat.le_refl _
  | p :: r => by
    have ih := putF_len n v r
    show (if p.1 = n then (p.1, v) :: r else p :: putF n v r).length ≤ _
    split
    · exact Nat.le_succ _
    · rw [List.length_cons, List.length_cons]; omega
def kvF (g : Row → V) (l : List Row) : List (Key × V) := l.map fun r => (.inr r.nm, g r)
theorem valV_kvF (g : Row → V) (z : Str) : ∀ l : List Row, valV (kvF g l) (.inr z : Key) = (l.find? fun r => decide (r.nm = z)).map g
  | [] => rfl
  | r :: l => by
    have ih := valV_kvF g z l
    by_cases e : r.nm = z
    · show valV ((.inr r.nm, g r) :: kvF g l) (.inr z : Key) = _
      rw [valV_pos (by rw [e]), List.find?_cons_of_pos (by simpa using e)]
      rfl
    · show valV ((.inr r.nm, g r) :: kvF g l) (.inr z : Key) = _
      rw [valV_neg (fun q => e (Sum.inr.inj q)), List.find?_cons_of_neg (by simpa using e)]
      exact ih
theorem find_none {l : List Row} {z : Str} (h : z ∉ l.map (·.nm)) : (l.find? fun r => decide (r.nm = z)) = none := by
  rw [List.find?_eq_none]
  intro r hr
  simp only [decide_eq_true_eq]
  exact fun q => h (List.mem_map.mpr ⟨r, hr, q⟩)
theorem kvF_more {g : Row → V} {rs : List Row} {i : Nat} {r : Row} (h : rs[i]? = some r) (hn : r.nm ∉ (rs.take i).map (·.nm)) : putK (kvF g (rs.take i)) (.inr r.nm) (g r) = kvF g (rs.take (i + 1)) := by
  rw [putK_new _ (by rw [valV_kvF, find_none hn]; rfl), take_more h]
  unfold kvF
  rw [List.map_append]
  rfl
structure TreeAt (C : Addr) (H : Hp) (t : Addr) (rs : List Row) : Prop where
  ex : ∃ (dx q f k p : Addr) (qs : List Addr), H t = some (.ins C dx (tf q f k p)) ∧ H q = some (.tup (qs.map V.ref)) ∧ RowsAt H qs rs ∧ H f = some (.dK (kvF (fun r => .str r.fo) rs)) ∧ H k = some (.dK (kvF (fun r => .str r.ki) rs)) ∧ H p = some (.dK (kvF (fun r => prV r.pr) rs))
  val : Valid rs
  len : rs.length ≤ 100
theorem TreeAt.same {C : Addr} {H H' : Hp} {t : Addr} {rs : List Row} (h : TreeAt C H t rs) (s : Same H H') : TreeAt C H' t rs := by
  obtain ⟨dx, q, f, k, p, qs, h1, h2, h3, h4, h5, h6⟩ := h.ex
  exact ⟨⟨dx, q, f, k, p, qs, s _ _ h1, s _ _ h2, h3.same s, s _ _ h4, s _ _ h5, s _ _ h6⟩, h.val, h.len⟩
structure TxT (K : PySem.W.Frag) (mg : Str → Option Value) (C : Addr) : Prop where
  cl : Cls K C
  nq : NoAttr K C "quads"
  nf : NoAttr K C "folders"
  nk : NoAttr K C "kinds"
  np : NoAttr K C "prices"
  g : mg "Tree" = some (.ref C)
def rTupOf (K : PySem.W.Frag) : List V → Hp → VK → Prop := fun xs H Q => ∃ p ys, xs = [V.ref p] ∧ ((SqL K H p ys ∧ ∀ l, H l = none → Q (V.ref l) (upd H l (.tup ys))) ∨ (SqT K H p ys ∧ Q (V.ref p) H))
def spTreeInit (C : Addr) : Sp := fun vs H Q _ => ∃ (t dx rw : Addr) (as : List Addr) (rs : List Row), vs = [.ref t, .ref rw] ∧ H t = some (.ins C dx []) ∧ Seq H rw (as.map V.ref) ∧ SeqRows H as rs ∧ rs.length ≤ 100 ∧ Valid rs ∧
  ∀ H', SB t H H' → TreeAt C H' t rs → Q .non H'
section
variable {P : Program} {w : World} {K : PySem.W.Frag} {mg : Str → Option Value} {base : Heap} {C : Addr}
abbrev nTreeInit : List Str := ["self", "rows", "row", "name", "folder", "kind", "price"]
theorem sc_Tree_init : FnScope nTreeInit ["self", "rows"] (defScope s_Tree_init) := ⟨rfl, rfl, rfl, by decide +kernel, rfl, by decide +kernel, by decide +kernel⟩
theorem ok_Tree_init {f : Addr} {fd : FuncData} (F : Fun K "__init__" "Tree.__init__" s_Tree_init f fd) (Dc : DefAt K mg "check_rows" s_check_rows ["rows", "names", "folders"]) (Gc : FnOk P w K mg base CX0 4 Dc.f Dc.fd ["rows", "names", "folders"] (spCheckRows K)) (B : TxB mg) (TC : TxC K mg) (T : TxT K mg C) :
    FnOk P w K mg base CX0 5 f fd ["self", "rows"] (spTreeInit C) := by
  obtain ⟨t1, gT⟩ := TC.top
  refine F.ok sc_Tree_init (fun vs H Q E h => ?_) (fun cdv A outer s H vs Q E hr h => ?_)
  · obtain ⟨t, dx, rw, as, rs, rfl, _⟩ := h
    rfl
  · obtain ⟨t, dx, rw, as, rs, rfl, ht, hrw, hrows, hl, hv, hq⟩ := h
    refine ⟨_, pss_cons (ps_expr (pe_call Gc hr rfl Dc.g Dc.F.kp Dc.b .nil pass0 (pa_cons (pv 1) (pa_cons (pe_tup pa_nil) (pa_cons (pe_tup (pa_cons (pe_glob (by rfl) gT (v := .str ("top" : Str)) ⟨_, rfl⟩) pa_nil)) pa_nil)))))
      (pss_cons (ps_fld (pv 0) (pe_callTy call_tuple_of (by rfl) B.tuple (by decide +kernel) (pa_cons (pe_lc (own := [("row", 2)]) (g := gName 2) (tt := tYes) (te := tCB (rTupOf K) (tCons (tVar 2) tNil)) rfl sc_Tree_init.nd (pi_seqS (i := 1) (pv 1)) (blkOk_by (N := nTreeInit) (sc := defScope s_Tree_init) (by decide +kernel))
          (fun _ _ _ _ _ => pg_name (i := 2) sc_Tree_init.nd rfl (Or.inl rfl)) (fun _ _ _ _ _ => pts_nil) (fun _ _ _ _ _ => by exact pe_callTy (T := "tuple") call_tuple_of (by rfl) B.tuple (by decide +kernel) (pa_cons (pv 2) pa_nil))) pa_nil)) rfl)
      (pss_cons (ps_fld (pv 0) (pe_dc (own := [("name", 3), ("folder", 4), ("kind", 5), ("price", 6)]) (g := gTup K 4 (gCons (gName 3) (gCons (gName 4) (gCons (gName 5) (gCons (gName 6) gNil))))) (tt := tYes) rfl sc_Tree_init.nd (pi_tup (pe_fld (pv 0) rfl)) (blkOk_by (N := nTreeInit) (sc := defScope s_Tree_init) (by decide +kernel))
          (fun _ _ _ _ _ => by exact pg_tup rfl (pgs_cons (pg_name (i := 3) sc_Tree_init.nd rfl (.inl rfl)) (pgs_cons (pg_name (i := 4) sc_Tree_init.nd rfl (.inl rfl)) (pgs_cons (pg_name (i := 5) sc_Tree_init.nd rfl (.inl rfl)) (pgs_cons (pg_name (i := 6) sc_Tree_init.nd rfl (.inl rfl)) pgs_nil))))) (fun _ _ _ _ _ => pts_nil) (fun _ _ _ _ _ => pv 3) (fun _ _ _ _ _ => pv 4)) rfl)
      (pss_cons (ps_fld (pv 0) (pe_dc (own := [("name", 3), ("folder", 4), ("kind", 5), ("price", 6)]) (g := gTup K 4 (gCons (gName 3) (gCons (gName 4) (gCons (gName 5) (gCons (gName 6) gNil))))) (tt := tYes) rfl sc_Tree_init.nd (pi_tup (pe_fld (pv 0) rfl)) (blkOk_by (N := nTreeInit) (sc := defScope s_Tree_init) (by decide +kernel))
          (fun _ _ _ _ _ => by exact pg_tup rfl (pgs_cons (pg_name (i := 3) sc_Tree_init.nd rfl (.inl rfl)) (pgs_cons (pg_name (i := 4) sc_Tree_init.nd rfl (.inl rfl)) (pgs_cons (pg_name (i := 5) sc_Tree_init.nd rfl (.inl rfl)) (pgs_cons (pg_name (i := 6) sc_Tree_init.nd rfl (.inl rfl)) pgs_nil))))) (fun _ _ _ _ _ => pts_nil) (fun _ _ _ _ _ => pv 3) (fun _ _ _ _ _ => pv 5)) rfl)
      (pss_one (ps_fld (pv 0) (pe_dc (own := [("name", 3), ("folder", 4), ("kind", 5), ("price", 6)]) (g := gTup K 4 (gCons (gName 3) (gCons (gName 4) (gCons (gName 5) (gCons (gName 6) gNil))))) (tt := tYes) rfl sc_Tree_init.nd (pi_tup (pe_fld (pv 0) rfl)) (blkOk_by (N := nTreeInit) (sc := defScope s_Tree_init) (by decide +kernel))
          (fun _ _ _ _ _ => by exact pg_tup rfl (pgs_cons (pg_name (i := 3) sc_Tree_init.nd rfl (.inl rfl)) (pgs_cons (pg_name (i := 4) sc_Tree_init.nd rfl (.inl rfl)) (pgs_cons (pg_name (i := 5) sc_Tree_init.nd rfl (.inl rfl)) (pgs_cons (pg_name (i := 6) sc_Tree_init.nd rfl (.inl rfl)) pgs_nil))))) (fun _ _ _ _ _ => pts_nil) (fun _ _ _ _ _ => pv 3) (fun _ _ _ _ _ => pv 6)) rfl))))), ?_⟩
    refine ⟨_, rfl, Nat.zero_le _, fun u1 hu1 => ⟨(by show 1 ≤ sizeLine; decide), fun u2 hu2 => ?_⟩⟩
    have s0 : Same H (upd (upd H u1 (.tup [])) u2 (.tup [V.str ("top" : Str)])) := (Same.new hu1).trans (Same.new hu2)
    have n12 : u1 ≠ u2 := fun q => by rw [← q, upd_same] at hu2; cases hu2
    refine ⟨rw, u1, u2, [], [("top" : Str)], as, rs, rfl, hrw.same s0, hrows.same s0, sqT (by rw [upd_ne n12]; exact upd_same), sqT upd_same, hl, Nat.zero_le _, (by decide), fun i r h => (hv i r h).b, fun H1 s1 => ?_⟩
    have s01 := s0.trans s1
    have hq1 := hrw.same s01
    refine ⟨rw, _, rfl, hq1, fun J W => fun D hD => ?_⟩
    refine lc_it W (fun i H' => ∃ qs : List Addr, Same H1 H' ∧ RowsAt H' qs (rs.take i) ∧ H' D = some (.lst (qs.map V.ref))) ⟨[], Same.new hD, RowsAt.nil, upd_same⟩ (fun i H' _ ⟨_, sm, _, _⟩ => ?_) ?_ ?_
    · rcases hq1 with z | z <;> rw [z] <;> exact sm _ _ z
    · rintro i x H2 H2' hi ⟨qs, sm, rq, hD2⟩ ⟨rfl, hx⟩
      rw [List.length_map] at hi
      rw [List.getElem?_map] at hx
      obtain ⟨ra, hra, rfl⟩ := Option.map_eq_some_iff.mp hx
      obtain ⟨r, hr'⟩ : ∃ r, rs[i]? = some r := ⟨rs[i]'(by rw [← hrows.len]; exact hi), List.getElem?_eq_getElem _⟩
      have rr : Seq H2' ra (rowVs r) := Seq.same (hrows.at_ i ra r hra hr') (s01.trans sm)
      have sz : (qs.map V.ref).length < sizeLine := small1000 (by rw [List.length_map, rq.len, List.length_take]; omega)
      have fin : ∀ (l : Addr) (H3 : Hp), H3 l = some (.tup (rowVs r)) → Same H2' H3 → ∃ qs' : List Addr, Same H1 (upd H3 D (.lst (qs.map V.ref ++ [V.ref l]))) ∧ RowsAt (upd H3 D (.lst (qs.map V.ref ++ [V.ref l]))) qs' (rs.take (i + 1)) ∧ (upd H3 D (.lst (qs.map V.ref ++ [V.ref l]))) D = some (.lst (qs'.map V.ref)) := by
        intro l H3 hl3 s3
        have kt : ∀ {b : Addr} {xs : List V}, H3 b = some (.tup xs) → (upd H3 D (.lst (qs.map V.ref ++ [V.ref l]))) b = some (.tup xs) := fun {b xs} h => by
          rw [upd_ne (fun q => by rw [q, s3 _ _ hD2] at h; cases h)]
          exact h
        refine ⟨qs ++ [l], fun b o e => ?_, ?_, ?_⟩
        · rw [upd_ne (fun q => by rw [q, hD] at e; cases e)]
          exact s3 _ _ (sm _ _ e)
        · rw [take_more hr']
          exact RowsAt.snoc ⟨rq.len, fun j b q hb hq' => kt (s3 _ _ (rq.at_ j b q hb hq'))⟩ (kt hl3)
        · rw [upd_same, List.map_append]; rfl
      refine ⟨rfl, tYes_if ⟨_, rfl, ra, rowVs r, rfl, ?_⟩⟩
      rcases rr with z | z
      · exact .inr ⟨sqT z, qs.map V.ref, hD2, sz, fin ra _ z (Same.refl _)⟩
      · exact .inl ⟨SqL.of z, fun l hl' => ⟨qs.map V.ref, (Same.new hl') _ _ hD2, sz, fin l _ upd_same (Same.new hl')⟩⟩
    · rintro H2 ⟨qs, sm, rq, hD2⟩
      rw [List.length_map, hrows.len, List.take_length] at rq
      refine ⟨D, _, rfl, .inl ⟨SqL.of hD2, fun q hq' => ?_⟩⟩
      have fresh_t : ∀ {b : Addr} {o : HO}, H t = some o → H2 t = some o := fun {b o} e => sm _ _ (s01 _ _ e)
      have ht2 : H2 t = some (.ins C dx []) := sm _ _ (s01 _ _ ht)
      have tq : t ≠ q := ne_of_none ht2 hq'
      refine ⟨_, rfl, t, C, dx, _, rfl, Eq.trans (upd_ne tq) ht2, T.cl, T.nq, (by show 0 < 1000; decide), ?_⟩
      obtain ⟨aH, aE⟩ : ∃ Hx, Hx = upd (upd H2 q (.tup (qs.map V.ref))) t (.ins C dx (putF "quads" (.ref q) [])) := ⟨_, rfl⟩
      have at_ : aH t = some (.ins C dx (putF "quads" (.ref q) [])) := by rw [aE]; exact upd_same
      have aq : aH q = some (.tup (qs.map V.ref)) := by rw [aE, upd_ne tq.symm]; exact upd_same
      have keepA : ∀ b o, b ≠ t → H2 b = some o → aH b = some o := fun b o nb e => by rw [aE, upd_ne nb, upd_ne (ne_of_none e hq')]; exact e
      have nt : ∀ {b : Addr} {xs : List V}, H2 b = some (.tup xs) → b ≠ t := fun {b xs} e y => by rw [y, ht2] at e; cases e
      have ar : RowsAt aH qs rs := ⟨rq.len, fun j b r hb hr => keepA _ _ (nt (rq.at_ j b r hb hr)) (rq.at_ j b r hb hr)⟩
      have asb : SB t H aH := fun b o nb e => keepA b o nb (sm b o (s01 b o e))
      rw [← aE]
      clear aE keepA

      refine ⟨_, rfl, t, C, dx, _, _, rfl, at_, T.cl, T.nq, (by rw [lookup_putF, if_pos rfl]), q, rfl, ⟨_, sqT aq⟩, fun DF hDF => ?_⟩
      refine dc_tup (K := K) (a := q) (xs := qs.map V.ref) (fun i H' => Same aH H' ∧ H' DF = some (.dK (kvF (fun r => V.str r.fo) (rs.take i)))) ⟨Same.new hDF, upd_same⟩ (fun i H' _ m => sqT (m.1 _ _ aq)) ?_ ?_
      · rintro i x H' hx ⟨sm, hDi⟩
        rw [List.getElem?_map] at hx
        obtain ⟨qa, hqa, rfl⟩ := Option.map_eq_some_iff.mp hx
        obtain ⟨r, hr'⟩ : ∃ r, rs[i]? = some r := ⟨rs[i]'(by rw [← rq.len]; exact (List.getElem?_eq_some_iff.mp hqa).1), List.getElem?_eq_getElem _⟩
        have e := sm _ _ (ar.at_ i qa r hqa hr')
        refine ⟨qa, _, rfl, sqT e, rfl, _, _, rfl, _, _, rfl, _, _, rfl, _, _, rfl, rfl, rfl, tYes_if ⟨_, rfl, _, rfl, _, .inr r.nm, rfl, hDi, small1000 (by unfold kvF; rw [List.length_map, List.length_take]; omega), fun b o e => ?_, ?_⟩⟩
        · rw [upd_ne (fun y => by rw [y, hDF] at e; cases e)]
          exact sm b o e
        · rw [upd_same]
          exact congrArg (fun l => some (HO.dK l)) (kvF_more (g := (fun r => V.str r.fo)) hr' (hv i r hr').new)
      rintro H5 ⟨sm, hDD⟩
      rw [List.length_map, rq.len, List.take_length] at hDD
      refine ⟨_, rfl, t, C, dx, _, rfl, sm _ _ at_, T.cl, T.nf, ?_, ?_⟩
      · exact Nat.lt_of_le_of_lt (putF_len _ _ _) (by decide)
      obtain ⟨cH, cE⟩ : ∃ Hx, Hx = upd H5 t (.ins C dx (putF "folders" (.ref DF) (putF "quads" (.ref q) []))) := ⟨_, rfl⟩
      have ct : cH t = some (.ins C dx (putF "folders" (.ref DF) (putF "quads" (.ref q) []))) := by rw [cE]; exact upd_same
      have keepX : ∀ b o, b ≠ t → aH b = some o → cH b = some o := fun b o nb e => by rw [cE, upd_ne nb]; exact sm b o e
      have cq : cH q = some (.tup (qs.map V.ref)) := keepX _ _ tq.symm aq
      have cr : RowsAt cH qs rs := ⟨rq.len, fun j b r hb hr => keepX _ _ (nt (rq.at_ j b r hb hr)) (ar.at_ j b r hb hr)⟩
      have csb : SB t H cH := fun b o nb e => keepX b o nb (asb b o nb e)
      have nDF : DF ≠ t := fun y => by rw [y, at_] at hDF; cases hDF
      have cF : cH DF = some (.dK (kvF (fun r => V.str r.fo) rs)) := by rw [cE, upd_ne nDF]; exact hDD
      rw [← cE]
      clear cE keepX sm hDD H5

      refine ⟨_, rfl, t, C, dx, _, _, rfl, ct, T.cl, T.nq, (by rw [lookup_putF, if_neg qf_, lookup_putF, if_pos rfl]), q, rfl, ⟨_, sqT cq⟩, fun DK hDK => ?_⟩
      refine dc_tup (K := K) (a := q) (xs := qs.map V.ref) (fun i H' => Same cH H' ∧ H' DK = some (.dK (kvF (fun r => V.str r.ki) (rs.take i)))) ⟨Same.new hDK, upd_same⟩ (fun i H' _ m => sqT (m.1 _ _ cq)) ?_ ?_
      · rintro i x H' hx ⟨sm, hDi⟩
        rw [List.getElem?_map] at hx
        obtain ⟨qa, hqa, rfl⟩ := Option.map_eq_some_iff.mp hx
        obtain ⟨r, hr'⟩ : ∃ r, rs[i]? = some r := ⟨rs[i]'(by rw [← rq.len]; exact (List.getElem?_eq_some_iff.mp hqa).1), List.getElem?_eq_getElem _⟩
        have e := sm _ _ (cr.at_ i qa r hqa hr')
        refine ⟨qa, _, rfl, sqT e, rfl, _, _, rfl, _, _, rfl, _, _, rfl, _, _, rfl, rfl, rfl, tYes_if ⟨_, rfl, _, rfl, _, .inr r.nm, rfl, hDi, small1000 (by unfold kvF; rw [List.length_map, List.length_take]; omega), fun b o e => ?_, ?_⟩⟩
        · rw [upd_ne (fun y => by rw [y, hDK] at e; cases e)]
          exact sm b o e
        · rw [upd_same]
          exact congrArg (fun l => some (HO.dK l)) (kvF_more (g := (fun r => V.str r.ki)) hr' (hv i r hr').new)
      rintro H5 ⟨sm, hDD⟩
      rw [List.length_map, rq.len, List.take_length] at hDD
      refine ⟨_, rfl, t, C, dx, _, rfl, sm _ _ ct, T.cl, T.nk, ?_, ?_⟩
      · exact Nat.lt_of_le_of_lt (Nat.le_trans (putF_len _ _ _) (Nat.succ_le_succ (putF_len _ _ _))) (by decide)
      obtain ⟨dH, dE⟩ : ∃ Hx, Hx = upd H5 t (.ins C dx (putF "kinds" (.ref DK) (putF "folders" (.ref DF) (putF "quads" (.ref q) [])))) := ⟨_, rfl⟩
      have dt : dH t = some (.ins C dx (putF "kinds" (.ref DK) (putF "folders" (.ref DF) (putF "quads" (.ref q) [])))) := by rw [dE]; exact upd_same
      have keepX : ∀ b o, b ≠ t → cH b = some o → dH b = some o := fun b o nb e => by rw [dE, upd_ne nb]; exact sm b o e
      have dq : dH q = some (.tup (qs.map V.ref)) := keepX _ _ tq.symm cq
      have dr : RowsAt dH qs rs := ⟨rq.len, fun j b r hb hr => keepX _ _ (nt (rq.at_ j b r hb hr)) (cr.at_ j b r hb hr)⟩
      have dsb : SB t H dH := fun b o nb e => keepX b o nb (csb b o nb e)
      have nDK : DK ≠ t := fun y => by rw [y, ct] at hDK; cases hDK
      have dK : dH DK = some (.dK (kvF (fun r => V.str r.ki) rs)) := by rw [dE, upd_ne nDK]; exact hDD
      have dF : dH DF = some (.dK (kvF (fun r => V.str r.fo) rs)) := keepX _ _ nDF cF
      rw [← dE]
      clear dE keepX sm hDD H5

      refine ⟨_, rfl, t, C, dx, _, _, rfl, dt, T.cl, T.nq, (by rw [lookup_putF, if_neg qk_, lookup_putF, if_neg qf_, lookup_putF, if_pos rfl]), q, rfl, ⟨_, sqT dq⟩, fun DP hDP => ?_⟩
      refine dc_tup (K := K) (a := q) (xs := qs.map V.ref) (fun i H' => Same dH H' ∧ H' DP = some (.dK (kvF (fun r => prV r.pr) (rs.take i)))) ⟨Same.new hDP, upd_same⟩ (fun i H' _ m => sqT (m.1 _ _ dq)) ?_ ?_
      · rintro i x H' hx ⟨sm, hDi⟩
        rw [List.getElem?_map] at hx
        obtain ⟨qa, hqa, rfl⟩ := Option.map_eq_some_iff.mp hx
        obtain ⟨r, hr'⟩ : ∃ r, rs[i]? = some r := ⟨rs[i]'(by rw [← rq.len]; exact (List.getElem?_eq_some_iff.mp hqa).1), List.getElem?_eq_getElem _⟩
        have e := sm _ _ (dr.at_ i qa r hqa hr')
        refine ⟨qa, _, rfl, sqT e, rfl, _, _, rfl, _, _, rfl, _, _, rfl, _, _, rfl, rfl, rfl, tYes_if ⟨_, rfl, _, rfl, _, .inr r.nm, rfl, hDi, small1000 (by unfold kvF; rw [List.length_map, List.length_take]; omega), fun b o e => ?_, ?_⟩⟩
        · rw [upd_ne (fun y => by rw [y, hDP] at e; cases e)]
          exact sm b o e
        · rw [upd_same]
          exact congrArg (fun l => some (HO.dK l)) (kvF_more (g := (fun r => prV r.pr)) hr' (hv i r hr').new)
      rintro H5 ⟨sm, hDD⟩
      rw [List.length_map, rq.len, List.take_length] at hDD
      refine ⟨_, rfl, t, C, dx, _, rfl, sm _ _ dt, T.cl, T.np, ?_, ?_⟩
      · exact Nat.lt_of_le_of_lt (Nat.le_trans (putF_len _ _ _) (Nat.succ_le_succ (Nat.le_trans (putF_len _ _ _) (Nat.succ_le_succ (putF_len _ _ _))))) (by decide)
      obtain ⟨eH, eE⟩ : ∃ Hx, Hx = upd H5 t (.ins C dx (putF "prices" (.ref DP) (putF "kinds" (.ref DK) (putF "folders" (.ref DF) (putF "quads" (.ref q) []))))) := ⟨_, rfl⟩
      have et : eH t = some (.ins C dx (putF "prices" (.ref DP) (putF "kinds" (.ref DK) (putF "folders" (.ref DF) (putF "quads" (.ref q) []))))) := by rw [eE]; exact upd_same
      have keepX : ∀ b o, b ≠ t → dH b = some o → eH b = some o := fun b o nb e => by rw [eE, upd_ne nb]; exact sm b o e
      have eq : eH q = some (.tup (qs.map V.ref)) := keepX _ _ tq.symm dq
      have er : RowsAt eH qs rs := ⟨rq.len, fun j b r hb hr => keepX _ _ (nt (rq.at_ j b r hb hr)) (dr.at_ j b r hb hr)⟩
      have esb : SB t H eH := fun b o nb e => keepX b o nb (dsb b o nb e)
      have nDP : DP ≠ t := fun y => by rw [y, dt] at hDP; cases hDP
      have eP : eH DP = some (.dK (kvF (fun r => prV r.pr) rs)) := by rw [eE, upd_ne nDP]; exact hDD
      have eF : eH DF = some (.dK (kvF (fun r => V.str r.fo) rs)) := keepX _ _ nDF dF
      have eK : eH DK = some (.dK (kvF (fun r => V.str r.ki) rs)) := keepX _ _ nDK dK
      rw [← eE]
      clear eE keepX sm hDD H5
      exact hq eH esb ⟨⟨dx, q, DF, DK, DP, qs, et, eq, er, eF, eK, eP⟩, hv, hl⟩
end
end Ts

set_option maxRecDepth 100000
set_option maxHeartbeats 4000000
namespace Ts
open PySem L2
/-! ### rows as data -/
def prD : Option Int → PyData
  | none => .none
  | some i => .int i
def rowD (r : Row) : PyData := .tuple [.str r.nm, .str r.fo, .str r.ki, prD r.pr]
theorem prD_ok {K : PySem.W.Frag} {H : Hp} (o : Option Int) : Dp K H (prV o) (prD o) := by
  cases o with
  | none => exact .non
  | some i => exact .int i
theorem row_dp {K : PySem.W.Frag} {H : Hp} {a : Addr} {r : Row} (h : H a = some (.tup (rowVs r))) : Dp K H (.ref a) (rowD r) :=
  .tup (sqT h) (.cons (.str _) (.cons (.str _) (.cons (.str _) (.cons (prD_ok _) .nil))))
theorem rows_dp {K : PySem.W.Frag} {H : Hp} : ∀ {as : List Addr} {rs : List Row}, RowsAt H as rs → DpAll K H (as.map V.ref) (rs.map rowD)
  | [], [], _ => .nil
  | [], _ :: _, h => by have := h.len; simp at this
  | _ :: _, [], h => by have := h.len; simp at this
  | a :: as, r :: rs, h => .cons (row_dp (h.at_ 0 a r rfl rfl)) (rows_dp ⟨by simpa using h.len, fun i b q hb hq => h.at_ (i + 1) b q (by simpa using hb) (by simpa using hq)⟩)
theorem str_beq (x y : Str) : (x == y) = decide (x = y) := by
  by_cases h : x = y
  · subst h; simp
  · rw [decide_eq_false h]; exact beq_eq_false_iff_ne.mpr h
theorem prD_eqv (a b : Option Int) : PyData.eqv (prD a) (prD b) = decide (a = b) := by
  cases a <;> cases b <;> simp [prD, PyData.eqv]
  rename_i i j
  by_cases h : i = j <;> simp [h]
theorem row_eqv (a b : Row) : PyData.eqv (rowD a) (rowD b) = decide (a = b) := by
  obtain ⟨n1, f1, k1, p1⟩ := a
  obtain ⟨n2, f2, k2, p2⟩ := b
  unfold rowD
  simp only [PyData.eqv, PyData.eqvAll, prD_eqv, str_beq, Bool.and_true]
  by_cases h1 : n1 = n2 <;> by_cases h2 : f1 = f2 <;> by_cases h3 : k1 = k2 <;> by_cases h4 : p1 = p2 <;> simp [h1, h2, h3, h4]
theorem rows_eqv : ∀ (a b : List Row), PyData.eqvAll (a.map rowD) (b.map rowD) = decide (a = b)
  | [], [] => by simp [PyData.eqvAll]
  | [], _ :: _ => by simp [PyData.eqvAll]
  | _ :: _, [] => by simp [PyData.eqvAll]
  | x :: a, y :: b => by
    simp only [List.map_cons, PyData.eqvAll, row_eqv, rows_eqv a b]
    by_cases h1 : x = y <;> by_cases h2 : a = b <;> simp [h1, h2]
theorem low_ok {z : Str} (h : ∀ c ∈ z.cps.toList, c ≤ 122) : PyData.strOk z = true := by
  unfold PyData.strOk
  rw [← Array.all_toList, List.all_eq_true]
  intro c hc
  have := h c hc
  exact decide_eq_true (by omega)
theorem top_ok : PyData.strOk ("top" : Str) = true := by decide +kernel
theorem kinds_ok : ∀ k ∈ kinds3, PyData.strOk k = true := by decide +kernel
structure RowOk (r : Row) : Prop where
  n : PyData.strOk r.nm = true
  f : PyData.strOk r.fo = true
  k : PyData.strOk r.ki = true
theorem rowD_lay {r : Row} (h : RowOk r) : (rowD r).canLay0 = true := by
  obtain ⟨h1, h2, h3⟩ := h
  obtain ⟨n, f, k, p⟩ := r
  cases p <;> simp_all [rowD, prD, PyData.canLay0, PyData.canLayAll0]
theorem rowD_depth (r : Row) : (rowD r).depth = 1 := by
  obtain ⟨n, f, k, p⟩ := r
  cases p <;> simp [rowD, prD, PyData.depth, PyData.depthAll]
theorem rows_lay : ∀ (rs : List Row), (∀ r ∈ rs, RowOk r) → PyData.canLayAll0 (rs.map rowD) = true
  | [], _ => by simp [PyData.canLayAll0]
  | r :: rs, h => by
    simp only [List.map_cons, PyData.canLayAll0, rowD_lay (h r (List.mem_cons_self ..)), rows_lay rs (fun q hq => h q (List.mem_cons_of_mem _ hq)), Bool.and_self]
theorem rows_depth : ∀ (rs : List Row), PyData.depthAll (rs.map rowD) ≤ 1
  | [] => by simp [PyData.depthAll]
  | r :: rs => by
    have ih := rows_depth rs
    simp only [List.map_cons, PyData.depthAll, rowD_depth]
    omega
theorem shaped_tup {rs : List Row} (h : ∀ r ∈ rs, RowOk r) : SeqAt.shaped (.tuple (rs.map rowD)) = true := by
  have q := rows_depth rs
  unfold SeqAt.shaped
  rw [Bool.and_eq_true]
  refine ⟨by simp only [PyData.canLay0]; exact rows_lay rs h, decide_eq_true ?_⟩
  simp only [PyData.depth]
  omega
theorem shaped_lst {rs : List Row} (h : ∀ r ∈ rs, RowOk r) : SeqAt.shaped (.list (rs.map rowD)) = true := by
  have q := rows_depth rs
  unfold SeqAt.shaped
  rw [Bool.and_eq_true]
  refine ⟨by simp only [PyData.canLay0]; exact rows_lay rs h, decide_eq_true ?_⟩
  simp only [PyData.depth]
  omega
theorem shaped_row {r : Row} (h : RowOk r) : SeqAt.shaped (rowD r) = true := by
  simp only [SeqAt.shaped, rowD_lay h, rowD_depth, Bool.true_and]
  decide
theorem low_sok {z : Str} (h : Low z) : PyData.strOk z = true := low_ok fun c hc => (h c hc).2
theorem Valid.ok {rs : List Row} (h : Valid rs) : ∀ r ∈ rs, RowOk r := by
  intro r hr
  obtain ⟨i, hi, rfl⟩ := List.mem_iff_getElem.mp hr
  have f := h i rs[i] (List.getElem?_eq_getElem hi)
  refine ⟨low_sok f.shape.2, ?_, kinds_ok _ f.kind⟩
  rcases f.home with e | ⟨q, hq, e, _⟩
  · rw [e]; exact top_ok
  · obtain ⟨j, hj, rfl⟩ := List.mem_iff_getElem.mp (List.mem_of_mem_take hq)
    rw [← e]
    exact low_sok (h j rs[j] (List.getElem?_eq_getElem hj)).shape.2
/-! ### promises of the methods -/
def names (rs : List Row) : List Str := rs.map (·.nm)
def rowOf (rs : List Row) (z : Str) : Option Row := rs.find? fun r => decide (r.nm = z)
theorem rowOf_some {rs : List Row} {z : Str} (h : z ∈ names rs) : ∃ r, rowOf rs z = some r ∧ r ∈ rs ∧ r.nm = z := by
  unfold rowOf
  obtain ⟨q, hq, e⟩ := List.mem_map.mp h
  cases e1 : rs.find? fun r => decide (r.nm = z) with
  | none =>
    rw [List.find?_eq_none] at e1
    exact absurd (decide_eq_true e) (e1 q hq)
  | some r => exact ⟨r, rfl, List.mem_of_find?_eq_some e1, of_decide_eq_true (List.find?_some (p := fun (r : Row) => decide (r.nm = z)) e1)⟩
def spLen (C : Addr) : Sp := fun vs H Q _ => ∃ (t : Addr) (rs : List Row), vs = [.ref t] ∧ TreeAt C H t rs ∧ Q (.int rs.length) H
def Other (K : PySem.W.Frag) (H : Hp) (x : V) (c : Value) : Prop := ∃ ty, TyX K H x ty ∧ PySem.W.kitOne K ty c = some false
def spContains (K : PySem.W.Frag) (C : Addr) : Sp := fun vs H Q _ => ∃ (t : Addr) (x : V) (rs : List Row), vs = [.ref t, x] ∧ TreeAt C H t rs ∧
  ((∃ z, x = .str z ∧ Q (.bl (decide (z ∈ names rs))) H) ∨ (Other K H x (.type "str") ∧ Q (.bl false) H))
def spEqT (K : PySem.W.Frag) (C : Addr) : Sp := fun vs H Q _ => ∃ (t : Addr) (x : V) (rs : List Row), vs = [.ref t, x] ∧ TreeAt C H t rs ∧
  ((∃ (u : Addr) (qs : List Row), x = .ref u ∧ TreeAt C H u qs ∧ Q (.bl (decide (rs = qs))) H) ∨ (Other K H x (.ref C) ∧ Q (.bl false) H))
def spRowsM (C : Addr) : Sp := fun vs H Q _ => ∃ (t : Addr) (rs : List Row), vs = [.ref t] ∧ TreeAt C H t rs ∧ ∀ p (qs : List Addr), H p = none → RowsAt H qs rs → Q (.ref p) (upd H p (.lst (qs.map V.ref)))
def spBox (C : Addr) : Sp := fun vs H Q _ => ∃ (t : Addr) (z : Str) (rs : List Row), vs = [.ref t, .str z] ∧ TreeAt C H t rs ∧ z ∈ names rs ∧ Q .non H
def spIsPlace (C : Addr) : Sp := fun vs H Q _ => ∃ (t : Addr) (z : Str) (rs : List Row), vs = [.ref t, .str z] ∧ TreeAt C H t rs ∧ Q (.bl (decide (z = ("top" : Str) ∨ z ∈ names rs))) H
def spPlace (C : Addr) : Sp := fun vs H Q _ => ∃ (t : Addr) (z : Str) (rs : List Row), vs = [.ref t, .str z] ∧ TreeAt C H t rs ∧ (z = ("top" : Str) ∨ z ∈ names rs) ∧ Q .non H
def spGet (C : Addr) (g : Row → V) : Sp := fun vs H Q _ => ∃ (t : Addr) (z : Str) (rs : List Row) (r : Row), vs = [.ref t, .str z] ∧ TreeAt C H t rs ∧ rowOf rs z = some r ∧ Q (g r) H
section
variable {P : Program} {w : World} {K : PySem.W.Frag} {mg : Str → Option Value} {base : Heap} {C : Addr}
theorem sc_Tree_len : FnScope ["self"] ["self"] (defScope s_Tree_len) := ⟨rfl, rfl, rfl, by decide +kernel, rfl, by decide +kernel, by decide +kernel⟩
theorem ok_Tree_len {f : Addr} {fd : FuncData} (F : Fun K "__len__" "Tree.__len__" s_Tree_len f fd) (B : TxB mg) (T : TxT K mg C) : FnOk P w K mg base CX0 2 f fd ["self"] (spLen C) := by
  refine F.ok sc_Tree_len (fun vs H Q E h => ?_) (fun cdv A outer s H vs Q E hr h => ?_)
  · obtain ⟨t, rs, rfl, _⟩ := h
    rfl
  · obtain ⟨t, rs, rfl, ht, hq⟩ := h
    obtain ⟨dx, q, f, k, p, qs, h1, h2, h3, h4, h5, h6⟩ := ht.ex
    refine ⟨_, pss_one (ps_ret (pe_callB call_len_seq (by rfl) B.len PySem.boot_len (pa_cons (pe_fld (pv 0) rfl) pa_nil))), ?_⟩
    refine ⟨_, rfl, t, C, dx, _, _, rfl, h1, T.cl, T.nq, tf_q _ _ _ _, q, _, rfl, .inr (sqT h2), ?_⟩
    rw [List.length_map, h3.len]
    exact hq
theorem sc_Tree_contains : FnScope ["self", "x"] ["self", "x"] (defScope s_Tree_contains) := ⟨rfl, rfl, rfl, by decide +kernel, rfl, by decide +kernel, by decide +kernel⟩
theorem ok_Tree_contains {f : Addr} {fd : FuncData} (F : Fun K "__contains__" "Tree.__contains__" s_Tree_contains f fd) (B : TxB mg) (T : TxT K mg C) : FnOk P w K mg base CX0 2 f fd ["self", "x"] (spContains K C) := by
  refine F.ok sc_Tree_contains (fun vs H Q E h => ?_) (fun cdv A outer s H vs Q E hr h => ?_)
  · obtain ⟨t, x, rs, rfl, _⟩ := h
    rfl
  · obtain ⟨t, x, rs, rfl, ht, h⟩ := h
    have hu := hu_of hr
    obtain ⟨dx, q, f, k, p, qs, h1, h2, h3, h4, h5, h6⟩ := ht.ex
    refine ⟨_, pss_one (ps_ret (pe_and (pe_callB call_isi (by rfl) B.isinstance (by decide +kernel) (pa_cons (pv 1) (pa_cons (pe_bltn (by rfl) B.str (by decide +kernel) (v := .ty "str") rfl) pa_nil))) (pe_one (pe_cmp (pc_din hu (pv 1) (pe_fld (pv 0) rfl)) rfl)))), ?_⟩
    rcases h with ⟨z, rfl, hq⟩ | ⟨⟨ty, hty, hk⟩, hq⟩
    · refine ⟨_, rfl, _, _, _, _, true, rfl, .ty "str", .base (.str z), kit_ty (by decide +kernel), _, rfl, iteT ?_⟩
      refine ⟨_, rfl, _, rfl, t, C, dx, _, _, rfl, h1, T.cl, T.nk, tf_k _ _ _ _, k, _, rfl, DGet.k (k := Sum.inr z) h5, ?_⟩
      rw [valV_kvF]
      have e : ((rs.find? fun r => decide (r.nm = z)).map fun r => V.str r.ki).isSome = decide (z ∈ names rs) := by
        by_cases hz : z ∈ names rs
        · obtain ⟨r, e1, _⟩ := rowOf_some hz
          unfold rowOf at e1
          rw [e1, decide_eq_true hz]; rfl
        · rw [find_none hz, decide_eq_false hz]; rfl
      rw [e]
      exact hq
    · exact ⟨_, rfl, _, _, _, _, false, rfl, .ty "str", hty, hk, _, rfl, iteF hq⟩
theorem sc_Tree_eq : FnScope ["self", "other"] ["self", "other"] (defScope s_Tree_eq) := ⟨rfl, rfl, rfl, by decide +kernel, rfl, by decide +kernel, by decide +kernel⟩
theorem ok_Tree_eq {f : Addr} {fd : FuncData} (F : Fun K "__eq__" "Tree.__eq__" s_Tree_eq f fd) (B : TxB mg) (T : TxT K mg C) (I : C8.InsC K C) : FnOk P w K mg base CX0 2 f fd ["self", "other"] (spEqT K C) := by
  refine F.ok sc_Tree_eq (fun vs H Q E h => ?_) (fun cdv A outer s H vs Q E hr h => ?_)
  · obtain ⟨t, x, rs, rfl, _⟩ := h
    rfl
  · obtain ⟨t, x, rs, rfl, ht, h⟩ := h
    obtain ⟨dx, q, f, k, p, qs, h1, h2, h3, h4, h5, h6⟩ := ht.ex
    refine ⟨_, pss_one (ps_ret (pe_and (pe_callB call_isi (by rfl) B.isinstance (by decide +kernel) (pa_cons (pv 1) (pa_cons (pe_glob (by rfl) T.g (v := .ref C) rfl) pa_nil))) (pe_one (pe_cmpR (op_eqD (by have := hr.units; exact this)) (pe_fld (pv 0) rfl) (pe_fld (pv 1) rfl) (nomark _))))), ?_⟩
    rcases h with ⟨u, ys, rfl, hu, hq⟩ | ⟨⟨ty, hty, hk⟩, hq⟩
    · obtain ⟨dx', q', f', k', p', qs', g1, g2, g3, g4, g5, g6⟩ := hu.ex
      refine ⟨_, rfl, _, _, _, _, true, rfl, .own C, .base (.ins g1 I.cl I.ha I.hn I.htk I.hm), I.me, _, rfl, iteT ?_⟩
      refine ⟨_, rfl, t, C, dx, _, _, rfl, h1, T.cl, T.nq, tf_q _ _ _ _, _, rfl, u, C, dx', _, _, rfl, g1, T.cl, T.nq, tf_q _ _ _ _, _, _, .tup (sqT h2) (rows_dp h3), .tup (sqT g2) (rows_dp g3), shaped_tup ht.val.ok, shaped_tup hu.val.ok, ?_⟩
      have e : PyData.eqv (.tuple (rs.map rowD)) (.tuple (ys.map rowD)) = decide (rs = ys) := by
        simp only [PyData.eqv]
        exact rows_eqv rs ys
      rw [e]
      exact hq
    · exact ⟨_, rfl, _, _, _, _, false, rfl, .own C, hty, hk, _, rfl, iteF hq⟩
theorem sc_Tree_rows : FnScope ["self"] ["self"] (defScope s_Tree_rows) := ⟨rfl, rfl, rfl, by decide +kernel, rfl, by decide +kernel, by decide +kernel⟩
theorem ok_Tree_rows {f : Addr} {fd : FuncData} (F : Fun K "rows" "Tree.rows" s_Tree_rows f fd) (B : TxB mg) (T : TxT K mg C) : FnOk P w K mg base CX0 2 f fd ["self"] (spRowsM C) := by
  refine F.ok sc_Tree_rows (fun vs H Q E h => ?_) (fun cdv A outer s H vs Q E hr h => ?_)
  · obtain ⟨t, rs, rfl, _⟩ := h
    rfl
  · obtain ⟨t, rs, rfl, ht, hq⟩ := h
    obtain ⟨dx, q, f, k, p, qs, h1, h2, h3, h4, h5, h6⟩ := ht.ex
    refine ⟨_, pss_one (ps_ret (pe_callTy call_list_of (by rfl) B.list (by decide +kernel) (pa_cons (pe_fld (pv 0) rfl) pa_nil))), ?_⟩
    exact ⟨_, rfl, t, C, dx, _, _, rfl, h1, T.cl, T.nq, tf_q _ _ _ _, q, _, rfl, .inr (sqT h2), fun l hl => hq l qs hl h3⟩
theorem sc_check_box : FnScope ["tree", "thing"] ["tree", "thing"] (defScope s_check_box) := ⟨rfl, rfl, rfl, by decide +kernel, rfl, by decide +kernel, by decide +kernel⟩
theorem ok_check_box (D : DefAt K mg "check_box" s_check_box ["tree", "thing"]) (M : MethAt K C "__contains__" "Tree.__contains__" s_Tree_contains ["self", "x"]) (B : TxB mg) (T : TxT K mg C) : FnOk P w K mg base CX0 3 D.f D.fd ["tree", "thing"] (spBox C) := by
  have G : FnOk P w K mg base CX0 2 M.f M.fd ["self", "x"] (spContains K C) := ok_Tree_contains M.F B T
  refine D.F.ok sc_check_box (fun vs H Q E h => ?_) (fun cdv A outer s H vs Q E hr h => ?_)
  · obtain ⟨t, z, rs, rfl, _⟩ := h
    rfl
  · obtain ⟨t, z, rs, rfl, ht, hz, hq⟩ := h
    obtain ⟨dx, q, f, k, p, qs, h1, h2⟩ := ht.ex
    refine ⟨_, pss_one (ps_if (pt_cmpR (op_notinC G M.m hr M.b pass0) (pv 1) (pv 0) (by rfl)) (pss_one ps_never) pss_nil), ?_⟩
    refine ⟨_, rfl, _, rfl, t, dx, _, rfl, h1, t, _, rs, rfl, ht, .inl ⟨z, rfl, _, rfl, _, rfl, ?_⟩⟩
    rw [decide_eq_true hz]
    exact iteF hq
theorem sc_is_place : FnScope ["tree", "thing"] ["tree", "thing"] (defScope s_is_place) := ⟨rfl, rfl, rfl, by decide +kernel, rfl, by decide +kernel, by decide +kernel⟩
theorem ok_is_place (D : DefAt K mg "is_place" s_is_place ["tree", "thing"]) (M : MethAt K C "__contains__" "Tree.__contains__" s_Tree_contains ["self", "x"]) (B : TxB mg) (TC : TxC K mg) (T : TxT K mg C) : FnOk P w K mg base CX0 3 D.f D.fd ["tree", "thing"] (spIsPlace C) := by
  have G : FnOk P w K mg base CX0 2 M.f M.fd ["self", "x"] (spContains K C) := ok_Tree_contains M.F B T
  obtain ⟨t1, gT⟩ := TC.top
  refine D.F.ok sc_is_place (fun vs H Q E h => ?_) (fun cdv A outer s H vs Q E hr h => ?_)
  · obtain ⟨t, z, rs, rfl, _⟩ := h
    rfl
  · obtain ⟨t, z, rs, rfl, ht, hq⟩ := h
    obtain ⟨dx, q, f, k, p, qs, h1, h2⟩ := ht.ex
    refine ⟨_, pss_one (ps_ret (pe_or (pe_cmpR op_eq (pv 1) (pe_glob (by rfl) gT (v := .str ("top" : Str)) ⟨_, rfl⟩) (nomark _)) (pe_one (pe_cmpR (op_inC G M.m hr M.b pass0) (pv 1) (pv 0) (by rfl))))), ?_⟩
    refine ⟨_, rfl, rfl, _, rfl, ?_⟩
    have e0 : decide (V.str z = V.str ("top" : Str)) = decide (z = ("top" : Str)) := decide_eq_decide.mpr ⟨fun h => V.str.inj h, fun h => congrArg _ h⟩
    rw [e0]
    refine ite2 (fun hc => ?_) (fun hc => ?_)
    · have hc' : z = ("top" : Str) := of_decide_eq_true hc
      rw [decide_eq_true (Or.inl hc')] at hq
      exact hq
    · have hc' : ¬ z = ("top" : Str) := fun e => hc (decide_eq_true e)
      refine ⟨_, rfl, _, rfl, t, dx, _, rfl, h1, t, _, rs, rfl, ht, .inl ⟨z, rfl, _, rfl, ?_⟩⟩
      have e1 : decide (z = ("top" : Str) ∨ z ∈ names rs) = decide (z ∈ names rs) := decide_eq_decide.mpr ⟨fun h => h.resolve_left hc', Or.inr⟩
      rw [e1] at hq
      exact hq
theorem sc_check_place : FnScope ["tree", "thing"] ["tree", "thing"] (defScope s_check_place) := ⟨rfl, rfl, rfl, by decide +kernel, rfl, by decide +kernel, by decide +kernel⟩
theorem ok_check_place (D : DefAt K mg "check_place" s_check_place ["tree", "thing"]) (Db : DefAt K mg "is_place" s_is_place ["tree", "thing"]) (Gb : FnOk P w K mg base CX0 3 Db.f Db.fd ["tree", "thing"] (spIsPlace C)) : FnOk P w K mg base CX0 4 D.f D.fd ["tree", "thing"] (spPlace C) := by
  refine D.F.ok sc_check_place (fun vs H Q E h => ?_) (fun cdv A outer s H vs Q E hr h => ?_)
  · obtain ⟨t, z, rs, rfl, _⟩ := h
    rfl
  · obtain ⟨t, z, rs, rfl, ht, hz, hq⟩ := h
    refine ⟨_, pss_one (ps_if (pt_not (pt_val (pe_call Gb hr rfl Db.g Db.F.kp Db.b .nil pass0 (pa_cons (pv 0) (pa_cons (pv 1) pa_nil))))) (pss_one ps_never) pss_nil), ?_⟩
    refine ⟨_, rfl, _, rfl, t, z, rs, rfl, ht, _, rfl, ?_⟩
    rw [decide_eq_true hz]
    exact iteF hq
theorem sc_Tree_folder : FnScope ["self", "box"] ["self", "box"] (defScope s_Tree_folder) := ⟨rfl, rfl, rfl, by decide +kernel, rfl, by decide +kernel, by decide +kernel⟩
theorem ok_Tree_folder {f : Addr} {fd : FuncData} (F : Fun K "folder" "Tree.folder" s_Tree_folder f fd) (Db : DefAt K mg "check_box" s_check_box ["tree", "thing"]) (Gb : FnOk P w K mg base CX0 3 Db.f Db.fd ["tree", "thing"] (spBox C)) (T : TxT K mg C) : FnOk P w K mg base CX0 4 f fd ["self", "box"] (spGet C (fun r => V.str r.fo)) := by
  refine F.ok sc_Tree_folder (fun vs H Q E h => ?_) (fun cdv A outer s H vs Q E hr h => ?_)
  · obtain ⟨t, z, rs, r, rfl, _⟩ := h
    rfl
  · obtain ⟨t, z, rs, r, rfl, ht, hz, hq⟩ := h
    have hu := hu_of hr
    obtain ⟨dx, q, f, k, p, qs, h1, h2, h3, h4, h5, h6⟩ := ht.ex
    refine ⟨_, pss_cons (ps_expr (pe_call Gb hr rfl Db.g Db.F.kp Db.b .nil pass0 (pa_cons (pv 0) (pa_cons (pv 1) pa_nil)))) (pss_one (ps_ret (pe_dget hu (pe_fld (pv 0) rfl) (pv 1) (fun _ _ => rfl)))), ?_⟩
    have hin : z ∈ names rs := List.mem_map.mpr ⟨r, List.mem_of_find?_eq_some hz, of_decide_eq_true (List.find?_some (p := fun (r : Row) => decide (r.nm = z)) (show rs.find? (fun (r : Row) => decide (r.nm = z)) = some r from hz))⟩
    refine ⟨_, rfl, _, rfl, t, z, rs, rfl, ht, hin, _, rfl, t, C, dx, _, _, rfl, h1, T.cl, T.nf, tf_f _ _ _ _, _, rfl, f, _, rfl, ?_, hq⟩
    have e := DGet.k (k := Sum.inr z) h4
    rw [valV_kvF, show (rs.find? fun r => decide (r.nm = z)) = some r from hz] at e
    exact e
theorem sc_Tree_kind : FnScope ["self", "box"] ["self", "box"] (defScope s_Tree_kind) := ⟨rfl, rfl, rfl, by decide +kernel, rfl, by decide +kernel, by decide +kernel⟩
theorem ok_Tree_kind {f : Addr} {fd : FuncData} (F : Fun K "kind" "Tree.kind" s_Tree_kind f fd) (Db : DefAt K mg "check_box" s_check_box ["tree", "thing"]) (Gb : FnOk P w K mg base CX0 3 Db.f Db.fd ["tree", "thing"] (spBox C)) (T : TxT K mg C) : FnOk P w K mg base CX0 4 f fd ["self", "box"] (spGet C (fun r => V.str r.ki)) := by
  refine F.ok sc_Tree_kind (fun vs H Q E h => ?_) (fun cdv A outer s H vs Q E hr h => ?_)
  · obtain ⟨t, z, rs, r, rfl, _⟩ := h
    rfl
  · obtain ⟨t, z, rs, r, rfl, ht, hz, hq⟩ := h
    have hu := hu_of hr
    obtain ⟨dx, q, f, k, p, qs, h1, h2, h3, h4, h5, h6⟩ := ht.ex
    refine ⟨_, pss_cons (ps_expr (pe_call Gb hr rfl Db.g Db.F.kp Db.b .nil pass0 (pa_cons (pv 0) (pa_cons (pv 1) pa_nil)))) (pss_one (ps_ret (pe_dget hu (pe_fld (pv 0) rfl) (pv 1) (fun _ _ => rfl)))), ?_⟩
    have hin : z ∈ names rs := List.mem_map.mpr ⟨r, List.mem_of_find?_eq_some hz, of_decide_eq_true (List.find?_some (p := fun (r : Row) => decide (r.nm = z)) (show rs.find? (fun (r : Row) => decide (r.nm = z)) = some r from hz))⟩
    refine ⟨_, rfl, _, rfl, t, z, rs, rfl, ht, hin, _, rfl, t, C, dx, _, _, rfl, h1, T.cl, T.nk, tf_k _ _ _ _, _, rfl, k, _, rfl, ?_, hq⟩
    have e := DGet.k (k := Sum.inr z) h5
    rw [valV_kvF, show (rs.find? fun r => decide (r.nm = z)) = some r from hz] at e
    exact e
theorem sc_Tree_price : FnScope ["self", "box"] ["self", "box"] (defScope s_Tree_price) := ⟨rfl, rfl, rfl, by decide +kernel, rfl, by decide +kernel, by decide +kernel⟩
theorem ok_Tree_price {f : Addr} {fd : FuncData} (F : Fun K "price" "Tree.price" s_Tree_price f fd) (Db : DefAt K mg "check_box" s_check_box ["tree", "thing"]) (Gb : FnOk P w K mg base CX0 3 Db.f Db.fd ["tree", "thing"] (spBox C)) (T : TxT K mg C) : FnOk P w K mg base CX0 4 f fd ["self", "box"] (spGet C (fun r => prV r.pr)) := by
  refine F.ok sc_Tree_price (fun vs H Q E h => ?_) (fun cdv A outer s H vs Q E hr h => ?_)
  · obtain ⟨t, z, rs, r, rfl, _⟩ := h
    rfl
  · obtain ⟨t, z, rs, r, rfl, ht, hz, hq⟩ := h
    have hu := hu_of hr
    obtain ⟨dx, q, f, k, p, qs, h1, h2, h3, h4, h5, h6⟩ := ht.ex
    refine ⟨_, pss_cons (ps_expr (pe_call Gb hr rfl Db.g Db.F.kp Db.b .nil pass0 (pa_cons (pv 0) (pa_cons (pv 1) pa_nil)))) (pss_one (ps_ret (pe_dget hu (pe_fld (pv 0) rfl) (pv 1) (fun _ _ => rfl)))), ?_⟩
    have hin : z ∈ names rs := List.mem_map.mpr ⟨r, List.mem_of_find?_eq_some hz, of_decide_eq_true (List.find?_some (p := fun (r : Row) => decide (r.nm = z)) (show rs.find? (fun (r : Row) => decide (r.nm = z)) = some r from hz))⟩
    refine ⟨_, rfl, _, rfl, t, z, rs, rfl, ht, hin, _, rfl, t, C, dx, _, _, rfl, h1, T.cl, T.np, tf_p _ _ _ _, _, rfl, p, _, rfl, ?_, hq⟩
    have e := DGet.k (k := Sum.inr z) h6
    rw [valV_kvF, show (rs.find? fun r => decide (r.nm = z)) = some r from hz] at e
    exact e
end
end Ts

set_option maxRecDepth 100000
set_option maxHeartbeats 4000000
namespace Ts
open PySem L2
/-! ### ways -/
def wayR : List Row → Str → List Str
  | [], _ => []
  | r :: rest, z => if r.nm = z then wayR rest r.fo ++ [z] else wayR rest z
def wayOf (rs : List Row) (z : Str) : List Str := wayR rs.reverse z
structure FitR (rest : List Row) (r : Row) : Prop where
  top : r.nm ≠ ("top" : Str)
  new : r.nm ∉ rest.map (·.nm)
  home : r.fo = ("top" : Str) ∨ r.fo ∈ rest.map (·.nm)
def ValidR : List Row → Prop
  | [] => True
  | r :: rest => FitR rest r ∧ ValidR rest
theorem Valid.init {rs : List Row} {r : Row} (h : Valid (rs ++ [r])) : Valid rs := fun i q hq => by
  have hi : i < rs.length := (List.getElem?_eq_some_iff.mp hq).1
  have f := h i q (by rw [List.getElem?_append_left hi]; exact hq)
  rw [List.take_append_of_le_length (Nat.le_of_lt hi)] at f
  exact f
theorem Valid.last {rs : List Row} {r : Row} (h : Valid (rs ++ [r])) : Fits rs r := by
  have f := h rs.length r (by simp)
  rw [List.take_append_of_le_length (Nat.le_refl _), List.take_length] at f
  exact f
theorem validR : ∀ l : List Row, Valid l.reverse → ValidR l
  | [], _ => trivial
  | r :: l, h => by
    rw [List.reverse_cons] at h
    have f := h.last
    refine ⟨⟨f.top, by simpa using f.new, ?_⟩, validR l h.init⟩
    rcases f.home with e | ⟨q, hq, e, _⟩
    · exact .inl e
    · exact .inr (List.mem_map.mpr ⟨q, List.mem_reverse.mp hq, e⟩)
theorem wayR_mem : ∀ {l : List Row} {z x : Str}, x ∈ wayR l z → x ∈ l.map (·.nm)
  | [], _, _, h => by cases h
  | r :: l, z, x, h => by
    unfold wayR at h
    by_cases e : r.nm = z
    · rw [if_pos e] at h
      rcases List.mem_append.mp h with h | h
      · exact List.mem_cons_of_mem _ (wayR_mem h)
      · rw [List.mem_singleton.mp h, ← e]; exact List.mem_cons_self ..
    · rw [if_neg e] at h
      exact List.mem_cons_of_mem _ (wayR_mem h)
theorem wayR_out : ∀ {l : List Row} {z : Str}, z ∉ l.map (·.nm) → wayR l z = []
  | [], _, _ => rfl
  | r :: l, z, h => by
    unfold wayR
    rw [if_neg fun e => h (List.mem_map.mpr ⟨r, List.mem_cons_self .., e⟩)]
    exact wayR_out fun q => h (List.mem_cons_of_mem _ q)
theorem ValidR.home : ∀ {l : List Row} {r : Row}, ValidR l → r ∈ l → r.fo = ("top" : Str) ∨ r.fo ∈ l.map (·.nm)
  | q :: l, r, h, hr => by
    rcases List.mem_cons.mp hr with e | hr
    · subst e; exact h.1.home.imp id (List.mem_cons_of_mem _)
    · exact (h.2.home hr).imp id (List.mem_cons_of_mem _)
theorem ValidR.top : ∀ {l : List Row}, ValidR l → ("top" : Str) ∉ l.map (·.nm)
  | [], _, h => by cases h
  | r :: l, h, hm => by
    rcases List.mem_cons.mp hm with e | hm
    · exact h.1.top e.symm
    · exact h.2.top hm
theorem wayR_step : ∀ {l : List Row} {r : Row}, ValidR l → r ∈ l → wayR l r.nm = wayR l r.fo ++ [r.nm]
  | q :: l, r, h, hr => by
    rcases List.mem_cons.mp hr with e | hr'
    · subst e
      have ne : ¬ r.nm = r.fo := fun e => by
        rcases h.1.home with e2 | e2
        · exact h.1.top (e.trans e2)
        · exact h.1.new (e ▸ e2)
      show (if r.nm = r.nm then wayR l r.fo ++ [r.nm] else wayR l r.nm) = (if r.nm = r.fo then wayR l r.fo ++ [r.fo] else wayR l r.fo) ++ [r.nm]
      rw [if_pos rfl, if_neg ne]
    · have n1 : ¬ q.nm = r.nm := fun e => h.1.new (List.mem_map.mpr ⟨r, hr', e.symm⟩)
      have n2 : ¬ q.nm = r.fo := fun e => by
        rcases h.2.home hr' with e2 | e2
        · exact h.1.top (e.trans e2)
        · exact h.1.new (e ▸ e2)
      show (if q.nm = r.nm then wayR l q.fo ++ [r.nm] else wayR l r.nm) = (if q.nm = r.fo then wayR l q.fo ++ [r.fo] else wayR l r.fo) ++ [r.nm]
      rw [if_neg n1, if_neg n2]
      exact wayR_step h.2 hr'
theorem Valid.r {rs : List Row} (h : Valid rs) : ValidR rs.reverse := validR rs.reverse (by rw [List.reverse_reverse]; exact h)
theorem way_step {rs : List Row} (h : Valid rs) {r : Row} (hr : r ∈ rs) : wayOf rs r.nm = wayOf rs r.fo ++ [r.nm] := wayR_step h.r (List.mem_reverse.mpr hr)
theorem way_out {rs : List Row} {z : Str} (h : z ∉ names rs) : wayOf rs z = [] := wayR_out (by rw [List.map_reverse]; exact fun q => h (List.mem_reverse.mp q))
theorem top_not {rs : List Row} (h : Valid rs) : ("top" : Str) ∉ names rs := fun q => h.r.top (by rw [List.map_reverse]; exact List.mem_reverse.mpr q)
theorem way_top {rs : List Row} (h : Valid rs) : wayOf rs ("top" : Str) = [] := way_out (top_not h)
theorem way_mem {rs : List Row} {z x : Str} (h : x ∈ wayOf rs z) : x ∈ names rs := by
  have q := wayR_mem h
  rw [List.map_reverse] at q
  exact List.mem_reverse.mp q
theorem way_self {rs : List Row} (h : Valid rs) {z : Str} (hz : z ∈ names rs) : z ∈ wayOf rs z := by
  obtain ⟨r, hr, rfl⟩ := List.mem_map.mp hz
  rw [way_step h hr]
  simp
theorem Valid.fo {rs : List Row} (h : Valid rs) {i : Nat} {r : Row} (hr : rs[i]? = some r) : r.fo = ("top" : Str) ∨ r.fo ∈ names (rs.take i) := by
  rcases (h i r hr).home with e | ⟨q, hq, e, _⟩
  · exact .inl e
  · exact .inr (List.mem_map.mpr ⟨q, hq, e⟩)
theorem names_take {rs : List Row} {i : Nat} {z : Str} (h : z ∈ names (rs.take i)) : z ∈ names rs := by
  obtain ⟨r, hr, rfl⟩ := List.mem_map.mp h
  exact List.mem_map.mpr ⟨r, List.mem_of_mem_take hr, rfl⟩
theorem names_at {rs : List Row} {i : Nat} {z : Str} (h : z ∈ names (rs.take i)) : ∃ j r, j < i ∧ rs[j]? = some r ∧ r.nm = z := by
  obtain ⟨r, hr, rfl⟩ := List.mem_map.mp h
  obtain ⟨j, hj, e⟩ := List.mem_iff_getElem.mp hr
  rw [List.length_take] at hj
  refine ⟨j, r, by omega, ?_, rfl⟩
  rw [← e, List.getElem_take]
  exact List.getElem?_eq_getElem _
theorem way_pre {rs : List Row} (h : Valid rs) : ∀ (i : Nat) {z x : Str}, z ∈ names (rs.take i) → x ∈ wayOf rs z → x ∈ names (rs.take i) := by
  intro i
  induction i using Nat.strongRecOn with
  | _ i ih =>
    intro z x hz hx
    obtain ⟨j, r, hj, hr, rfl⟩ := names_at hz
    rw [way_step h (List.mem_of_getElem? hr)] at hx
    rcases List.mem_append.mp hx with hx | hx
    · rcases h.fo hr with e | e
      · rw [e, way_top h] at hx; cases hx
      · have q := ih j hj e hx
        obtain ⟨j2, r2, hj2, hr2, rfl⟩ := names_at q
        exact List.mem_map.mpr ⟨r2, List.mem_take_iff_getElem.mpr ⟨j2, by have := (List.getElem?_eq_some_iff.mp hr2).1; omega, (List.getElem?_eq_some_iff.mp hr2).2⟩, rfl⟩
    · rw [List.mem_singleton.mp hx]; exact hz
/-- what lies within z -/
def isIn (rs : List Row) (z : Str) (r : Row) : Bool := decide (r.nm ≠ z) && (decide (z = ("top" : Str)) || decide (z ∈ wayOf rs r.nm))
def belowL (rs : List Row) (z : Str) : List Str := (rs.filter (isIn rs z)).map (·.nm)
def insideL (rs : List Row) (z : Str) : List Str := (rs.filter fun r => decide (r.fo = z)).map (·.nm)
theorem below_in {rs : List Row} (h : Valid rs) {z : Str} (hz : z = ("top" : Str) ∨ z ∈ names rs) {i : Nat} {r : Row} (hr : rs[i]? = some r) :
    decide (r.fo ∈ z :: ((rs.take i).filter (isIn rs z)).map (·.nm)) = isIn rs z r := by
  have hrm := List.mem_of_getElem? hr
  have hfo := h.fo hr
  have f := h i r hr
  have mem : ∀ x : Str, x ∈ ((rs.take i).filter (isIn rs z)).map (·.nm) ↔ (x ∈ names (rs.take i) ∧ x ≠ z ∧ (z = ("top" : Str) ∨ z ∈ wayOf rs x)) := by
    intro x
    constructor
    · intro hx
      obtain ⟨q, hq, rfl⟩ := List.mem_map.mp hx
      obtain ⟨h1, h2⟩ := List.mem_filter.mp hq
      unfold isIn at h2
      simp at h2
      exact ⟨List.mem_map.mpr ⟨q, h1, rfl⟩, h2.1, h2.2⟩
    · rintro ⟨hx, h1, h2⟩
      obtain ⟨q, hq, rfl⟩ := List.mem_map.mp hx
      refine List.mem_map.mpr ⟨q, List.mem_filter.mpr ⟨hq, ?_⟩, rfl⟩
      unfold isIn
      simp
      exact ⟨h1, h2⟩
  by_cases e : r.nm = z
  · have e1 : isIn rs z r = false := by unfold isIn; simp [e]
    rw [e1]
    refine decide_eq_false fun hm => ?_
    rcases List.mem_cons.mp hm with q | q
    · rcases hfo with e2 | e2
      · exact f.top (e.trans (q.symm.trans e2))
      · rw [q, ← e] at e2; exact f.new e2
    · obtain ⟨q1, q2, q3⟩ := (mem _).mp q
      rcases q3 with q3 | q3
      · exact f.top (e.trans q3)
      · have := way_pre h i q1 q3
        rw [← e] at this
        exact f.new this
  · have e1 : isIn rs z r = (decide (z = ("top" : Str)) || decide (z ∈ wayOf rs r.nm)) := by unfold isIn; simp [e]
    rw [e1]
    have w : z ∈ wayOf rs r.nm ↔ z ∈ wayOf rs r.fo := by
      rw [way_step h hrm, List.mem_append, List.mem_singleton]
      exact ⟨fun q => q.resolve_right fun q => e q.symm, .inl⟩
    by_cases ht : z = ("top" : Str)
    · rw [decide_eq_true ht, Bool.true_or]
      refine decide_eq_true ?_
      rcases hfo with e2 | e2
      · rw [e2, ht]; exact List.mem_cons_self ..
      · refine List.mem_cons_of_mem _ ((mem _).mpr ⟨e2, fun q => ?_, .inl ht⟩)
        rw [q, ht] at e2
        exact top_not h (names_take e2)
    · rw [decide_eq_false ht, Bool.false_or]
      refine decide_eq_decide.mpr ?_
      rw [w]
      constructor
      · intro hm
        rcases List.mem_cons.mp hm with q | q
        · rw [q]; exact way_self h (hz.resolve_left ht)
        · exact ((mem _).mp q).2.2.resolve_left ht
      · intro hm
        by_cases q : r.fo = z
        · rw [q]; exact List.mem_cons_self ..
        · rcases hfo with e2 | e2
          · rw [e2, way_top h] at hm; cases hm
          · exact List.mem_cons_of_mem _ ((mem _).mpr ⟨e2, q, .inr hm⟩)
end Ts

set_option maxRecDepth 100000
set_option maxHeartbeats 4000000
namespace Ts
open PySem L2
def kvB (l : List Str) : List (Key × V) := l.map fun x => (.inr x, .bl true)
theorem valV_kvB (z : Str) : ∀ l : List Str, (valV (kvB l) (.inr z : Key)).isSome = decide (z ∈ l)
  | [] => by simp [kvB, valV]
  | x :: l => by
    have ih := valV_kvB z l
    show (valV ((.inr x, V.bl true) :: kvB l) (.inr z : Key)).isSome = _
    by_cases e : x = z
    · rw [valV_pos (by rw [e])]
      subst e
      simp
    · rw [valV_neg (fun q => e (Sum.inr.inj q)), ih]
      have e' : ¬ z = x := fun q => e q.symm
      simp [e']
theorem kvB_put {l : List Str} {x : Str} (h : x ∉ l) : putK (kvB l) (.inr x) (.bl true) = kvB (l ++ [x]) := by
  rw [putK_new]
  · unfold kvB; rw [List.map_append]; rfl
  · have q := valV_kvB x l
    rw [decide_eq_false h] at q
    simpa using q
def spListOf (C : Addr) (g : List Row → Str → List Str) : Sp := fun vs H Q _ => ∃ (t : Addr) (z : Str) (rs : List Row), vs = [.ref t, .str z] ∧ TreeAt C H t rs ∧ (z = ("top" : Str) ∨ z ∈ names rs) ∧
  ∀ D H', H D = none → Same H H' → H' D = some (.lst ((g rs z).map V.str)) → Q (.ref D) H'
theorem filter_take {rs : List Row} {i : Nat} {r : Row} (h : rs[i]? = some r) (p : Row → Bool) : ((rs.take (i + 1)).filter p).map (·.nm) = ((rs.take i).filter p).map (·.nm) ++ (if p r = true then [r.nm] else []) := by
  rw [take_more h, List.filter_append, List.map_append]
  by_cases e : p r = true
  · rw [if_pos e, List.filter_cons_of_pos e]; rfl
  · rw [if_neg e, List.filter_cons_of_neg e]; rfl
theorem kvF_at {g : Row → V} {rs : List Row} {i : Nat} {k : Key} {v : V} (h : (kvF g rs)[i]? = some (k, v)) : ∃ r, rs[i]? = some r ∧ k = .inr r.nm ∧ v = g r := by
  unfold kvF at h
  rw [List.getElem?_map] at h
  obtain ⟨r, e, q⟩ := Option.map_eq_some_iff.mp h
  injection q with q1 q2
  exact ⟨r, e, q1.symm, q2.symm⟩
theorem rowOf_at {rs : List Row} (h : Valid rs) {i : Nat} {r : Row} (hr : rs[i]? = some r) : rowOf rs r.nm = some r := by
  unfold rowOf
  rw [List.find?_eq_some_iff_getElem]
  have hi := (List.getElem?_eq_some_iff.mp hr).1
  refine ⟨decide_eq_true rfl, i, hi, (List.getElem?_eq_some_iff.mp hr).2, fun j hj => ?_⟩
  simp only [Bool.not_eq_true', decide_eq_false_iff_not]
  intro e
  exact (h i r hr).new (List.mem_map.mpr ⟨rs[j], List.mem_take_iff_getElem.mpr ⟨j, by omega, rfl⟩, e⟩)
section
variable {P : Program} {w : World} {K : PySem.W.Frag} {mg : Str → Option Value} {base : Heap} {C : Addr}
abbrev nBelow : List Str := ["self", "box", "within", "name"]
theorem sc_Tree_below : FnScope nBelow ["self", "box"] (defScope s_Tree_below) := ⟨rfl, rfl, rfl, by decide +kernel, rfl, by decide +kernel, by decide +kernel⟩
theorem cutV_tail (x : V) (xs : List V) : cutV (x :: xs) (some 1) none = xs := by
  unfold cutV
  rw [HT.sIx_none, show HT.sIx (x :: xs).length 0 (some 1) = 1 from by rw [show (some 1 : Option Int) = some ((1 : Nat) : Int) from rfl, HT.sIx_nat, List.length_cons]; omega]
  show (xs.take ((x :: xs).length - 1)) = xs
  rw [List.length_cons, Nat.add_sub_cancel, List.take_length]
theorem ok_Tree_below {f : Addr} {fd : FuncData} (F : Fun K "below" "Tree.below" s_Tree_below f fd) (Dp : DefAt K mg "check_place" s_check_place ["tree", "thing"]) (Gp : FnOk P w K mg base CX0 4 Dp.f Dp.fd ["tree", "thing"] (spPlace C)) (B : TxB mg) (T : TxT K mg C) : FnOk P w K mg base CX0 5 f fd ["self", "box"] (spListOf C belowL) := by
  refine F.ok sc_Tree_below (fun vs H Q E h => ?_) (fun cdv A outer s H vs Q E hr h => ?_)
  · obtain ⟨t, z, rs, rfl, _⟩ := h
    rfl
  · obtain ⟨t, z, rs, rfl, ht, hz, hq⟩ := h
    have hu := hu_of hr
    obtain ⟨dx, q, f, k, p, qs, h1, h2, h3, h4, h5, h6⟩ := ht.ex
    refine ⟨_, pss_cons (ps_expr (pe_call Gp hr rfl Dp.g Dp.F.kp Dp.b .nil pass0 (pa_cons (pv 0) (pa_cons (pv 1) pa_nil))))
      (pss_cons (ps_set (i := 2) sc_Tree_below.nd rfl (.inl rfl) (pe_disp (pps_cons (pv 1) pe_bl pps_nil) (by rfl) (by rfl) (fun z => by cases z) (by decide)))
      (pss_cons (ps_lock (ps_for PassesOwn.never rfl (pi_keys (pe_fld (pv 0) rfl)) (pg_name (i := 3) sc_Tree_below.nd rfl (.inl rfl))
        (pss_one (ps_if (pt_cmp (pc_din hu (pe_dget hu (pe_fld (pv 0) rfl) (pv 3) (fun _ _ => rfl)) (pv 2))) (pss_one (ps_dput hu (pv 2) (pv 3) pe_bl rfl)) pss_nil))))
      (pss_one (ps_ret (pe_slice sl_list (pe_callTy (call_list_dK rfl) (by rfl) B.list (by decide +kernel) (pa_cons (pv 2) pa_nil)) (po_some pe_int) po_none))))), ?_⟩
    refine ⟨_, rfl, _, rfl, t, z, rs, rfl, ht, hz, ?_⟩
    refine fun wd hwd => ⟨_, rfl, upd_same, [(.inr z, .bl true)], rfl, (by show 1 ≤ 15; decide), ?_⟩
    have tw : t ≠ wd := ne_of_none h1 hwd
    have fw : f ≠ wd := ne_of_none h4 hwd
    have tf_ : t ≠ f := ne_of h1 h4 (by intro x; cases x)
    have fw' : f ≠ wd := fw
    refine ⟨f, _, Eq.trans (upd_ne fw) (Eq.trans (upd_ne fw) h4), trivial, fun od => ?_⟩
    obtain ⟨Hl, El⟩ : ∃ Hx, Hx = upd (upd (upd H wd (.dK [])) wd (.dK (mergeK [] [(.inr z, .bl true)]))) f (.frz od (.dK (kvF (fun r => .str r.fo) rs))) := ⟨_, rfl⟩
    have l1 : Hl t = some (.ins C dx (tf q f k p)) := by rw [El, upd_ne tf_, upd_ne tw, upd_ne tw]; exact h1
    have l2 : Hl f = some (.frz od (.dK (kvF (fun r => .str r.fo) rs))) := by rw [El]; exact upd_same
    have l3 : Hl wd = some (.dK (kvB [z])) := by rw [El, upd_ne fw.symm]; exact upd_same
    have l4 : ∀ b o, b ≠ f → H b = some o → Hl b = some o := fun b o nb e => by rw [El, upd_ne nb, upd_ne (ne_of_none e hwd), upd_ne (ne_of_none e hwd)]; exact e
    have l5 : Same Hl Hl := Same.refl _
    rw [← El]
    clear El
    refine ⟨_, rfl, t, C, dx, _, _, rfl, l1, T.cl, T.nf, tf_f _ _ _ _, f, od, rfl, .inl ⟨_, l2, ?_⟩⟩
    refine for_it (walk_keys (d := f) (o := od) (kvs := kvF (fun r => .str r.fo) rs)) (fun i σ H' => ∃ v : Option V, σ = [some (.ref t), some (.str z), some (.ref wd), v] ∧ SB wd Hl H' ∧ H' wd = some (.dK (kvB (z :: ((rs.take i).filter (isIn rs z)).map (·.nm)))))
      ⟨none, rfl, SB.refl _ _, l3⟩ (fun i σ H' _ ⟨_, _, sb, _⟩ => sb _ _ fw l2) ?_ ?_
    · rintro i x σ H2 H2' hi ⟨v, rfl, sb, hw⟩ ⟨rfl, k', v', hk, rfl⟩
      obtain ⟨r, hr', rfl, rfl⟩ := kvF_at hk
      have e1 : H2' t = some (.ins C dx (tf q f k p)) := sb _ _ tw l1
      have e2 : H2' f = some (.frz od (.dK (kvF (fun r => .str r.fo) rs))) := sb _ _ fw l2
      have dg : DGet H2' f (.str r.nm) (some (.str r.fo)) := by
        have e := rowOf_at ht.val hr'
        refine .inl ⟨_, .inr r.nm, .inr ⟨od, e2⟩, rfl, ?_⟩
        rw [valV_kvF, show (rs.find? fun r' => decide (r'.nm = r.nm)) = some r from e]
        rfl
      refine ⟨_, rfl, t, C, dx, _, _, rfl, e1, T.cl, T.nf, tf_f _ _ _ _, _, rfl, f, _, rfl, dg, _, rfl, wd, _, rfl, DGet.k (k := Sum.inr r.fo) hw, _, rfl, ?_⟩
      rw [valV_kvB, below_in ht.val hz hr']
      have i100 : i < 100 := by
        have := (List.getElem?_eq_some_iff.mp hr').1
        have := ht.len
        omega
      refine ite2 (fun hc => ?_) (fun hc => ?_)
      · have nw : r.nm ∉ z :: ((rs.take i).filter (isIn rs z)).map (·.nm) := fun hm => by
          rcases List.mem_cons.mp hm with y | y
          · unfold isIn at hc
            simp [y] at hc
          · obtain ⟨q1, hq1, e⟩ := List.mem_map.mp y
            exact (ht.val i r hr').new (List.mem_map.mpr ⟨q1, (List.mem_filter.mp hq1).1, e⟩)
        refine ⟨_, rfl, _, rfl, wd, _, rfl, DPut.k (k := Sum.inr r.nm) hw (small1000 ?_), ?_⟩
        · unfold kvB
          rw [List.length_map, List.length_cons, List.length_map]
          have := List.length_filter_le (isIn rs z) (rs.take i)
          rw [List.length_take] at this
          omega
        · refine ⟨_, rfl, fun b o nb e => by rw [upd_ne nb]; exact sb b o nb e, ?_⟩
          rw [upd_same, kvB_put nw, filter_take hr', if_pos hc]
          rfl
      · refine ⟨_, rfl, sb, ?_⟩
        rw [filter_take hr', if_neg hc, List.append_nil]
        exact hw
    · rintro σ H2 ⟨v, rfl, sb, hw⟩
      have e : (kvF (fun r => V.str r.fo) rs).length = rs.length := by unfold kvF; rw [List.length_map]
      rw [e, List.take_length] at hw
      refine ⟨sb _ _ fw l2, ?_⟩
      have hw' : (upd H2 f (.dK (kvF (fun r => .str r.fo) rs))) wd = some (.dK (kvB (z :: belowL rs z))) := by rw [upd_ne fw.symm]; exact hw
      have sH : Same H (upd H2 f (.dK (kvF (fun r => .str r.fo) rs))) := fun b o eb => by
        by_cases hb : b = f
        · rw [hb, upd_same, ← h4, ← hb]; exact eb
        · rw [upd_ne hb]
          exact sb b o (ne_of_none eb hwd) (l4 b o hb eb)
      refine ⟨_, rfl, wd, _, rfl, hw', fun u hu' => ⟨_, rfl, u, _, rfl, SqL.of upd_same, fun D hD => ?_⟩⟩
      refine hq D _ ?_ ((sH.trans (Same.new hu')).trans (Same.new hD)) ?_
      · exact (sH.trans (Same.new hu')).free hD
      · have e3 : (kvB (z :: belowL rs z)).map (fun kv => kV kv.1) = V.str z :: (belowL rs z).map V.str := by
          unfold kvB
          rw [List.map_map]
          rfl
        rw [upd_same, e3, cutV_tail]
end
end Ts

set_option maxRecDepth 100000
set_option maxHeartbeats 4000000
namespace Ts
open PySem L2
/-- a list of rows, all tuples -/
structure RowsL (H : Hp) (p : Addr) (rs : List Row) : Prop where
  ex : ∃ as : List Addr, H p = some (.lst (as.map V.ref)) ∧ RowsAt H as rs
theorem RowsL.same {H H' : Hp} {p : Addr} {rs : List Row} (h : RowsL H p rs) (s : Same H H') : RowsL H' p rs := by
  obtain ⟨as, h1, h2⟩ := h.ex
  exact ⟨as, s _ _ h1, h2.same s⟩
def spWay : Sp := fun vs H Q _ => ∃ (p : Addr) (z : Str) (rs : List Row), vs = [.ref p, .str z] ∧ RowsL H p rs ∧ Valid rs ∧ rs.length ≤ 100 ∧ (z = ("top" : Str) ∨ z ∈ names rs) ∧
  ∀ D H', H D = none → Same H H' → H' D = some (.lst ((wayOf rs z).map V.str)) → Q (.ref D) H'
theorem atI0 (a b c d : V) : atI [a, b, c, d] 0 = some a := rfl
theorem atI1 (a b c d : V) : atI [a, b, c, d] 1 = some b := rfl
theorem atI2 (a b c d : V) : atI [a, b, c, d] 2 = some c := rfl
theorem atI3 (a b c d : V) : atI [a, b, c, d] 3 = some d := rfl
theorem merge_kvF (g : Row → V) {rs : List Row} (h : Valid rs) : ∀ n, n ≤ rs.length → mergeK [] (kvF g (rs.take n)) = kvF g (rs.take n) := by
  intro n
  induction n with
  | zero => intro _; rfl
  | succ n ih =>
    intro hn
    have hr : rs[n]? = some rs[n] := List.getElem?_eq_getElem (by omega)
    have e : kvF g (rs.take (n + 1)) = kvF g (rs.take n) ++ [(.inr rs[n].nm, g rs[n])] := by
      rw [take_more hr]; unfold kvF; rw [List.map_append]; rfl
    rw [e]
    unfold mergeK
    rw [List.foldl_append]
    have ih' := ih (by omega)
    unfold mergeK at ih'
    rw [ih']
    show putK (kvF g (rs.take n)) (.inr rs[n].nm) (g rs[n]) = _
    rw [kvF_more hr (h n _ hr).new, e]
theorem merge_all (g : Row → V) {rs : List Row} (h : Valid rs) : mergeK [] (kvF g rs) = kvF g rs := by
  have := merge_kvF g h rs.length (Nat.le_refl _)
  rw [List.take_length] at this
  exact this
def muWay (rs : List Row) : List (Option V) → Hp → Nat
  | _ :: some (.str z) :: _, _ => (wayOf rs z).length
  | _, _ => 0
theorem way_len {rs : List Row} {z : Str} : (wayOf rs z).length ≤ rs.length := by
  have : ∀ (l : List Row) (z : Str), (wayR l z).length ≤ l.length := by
    intro l
    induction l with
    | nil => intro z; exact Nat.le_refl _
    | cons r l ih =>
      intro z
      unfold wayR
      split
      · rw [List.length_append, List.length_singleton, List.length_cons]; have := ih r.fo; omega
      · rw [List.length_cons]; have := ih z; omega
  have q := this rs.reverse z
  rw [List.length_reverse] at q
  exact q
theorem Valid.foAll {rs : List Row} (h : Valid rs) {r : Row} (hr : r ∈ rs) : r.fo = ("top" : Str) ∨ r.fo ∈ names rs := by
  obtain ⟨i, hi, e⟩ := List.mem_iff_getElem.mp hr
  have := h.fo (i := i) (r := r) (by rw [← e]; exact List.getElem?_eq_getElem hi)
  exact this.imp id names_take
section
variable {P : Program} {w : World} {K : PySem.W.Frag} {mg : Str → Option Value} {base : Heap} {C : Addr}
abbrev nWay : List Str := ["_law_rows_here", "_law_box", "_law_folders", "_law_found", "_law_row"]
theorem sc_way : FnScope nWay ["_law_rows_here", "_law_box"] (defScope s_L_way) := ⟨rfl, rfl, rfl, by decide +kernel, rfl, by decide +kernel, by decide +kernel⟩
theorem ok_way (D : DefAt K mg "_law_way" s_L_way ["_law_rows_here", "_law_box"]) (B : TxB mg) : FnOk P w K mg base CX0 2 D.f D.fd ["_law_rows_here", "_law_box"] spWay := by
  refine D.F.ok sc_way (fun vs H Q E h => ?_) (fun cdv A outer s H vs Q E hr h => ?_)
  · obtain ⟨p, z, rs, rfl, _⟩ := h
    rfl
  · obtain ⟨p, z, rs, rfl, ⟨as, hp, hrows⟩, hv, hl, hz, hq⟩ := h
    have hu := hu_of hr
    refine ⟨_, pss_cons (ps_par (i := 2) (j := 3) rfl sc_way.nd rfl rfl (by decide) rfl rfl (pa_cons (pe_callTy (call_dictP rfl) (by rfl) B.dict (by decide +kernel) (pa_cons (pe_lc (own := [("_law_row", 4)]) (g := gName 4) (tt := tYes) (te := tTup (tCons (tOp (rIxT K) (tVar 4) (tC (.int 0))) (tCons (tOp (rIxT K) (tVar 4) (tC (.int 1))) tNil))) rfl sc_way.nd (pi_list (pv 0)) (blkOk_by (N := nWay) (sc := defScope s_L_way) (by decide +kernel))
        (fun _ _ _ _ _ => pg_name (i := 4) sc_way.nd rfl (Or.inl rfl)) (fun _ _ _ _ _ => pts_nil) (fun _ _ _ _ _ => by exact pe_tup (pa_cons (pe_ix ix_tup (pv 4) pe_int (fun _ _ => rfl)) (pa_cons (pe_ix ix_tup (pv 4) pe_int (fun _ _ => rfl)) pa_nil)))) pa_nil)) (pa_cons (pe_lst pa_nil) pa_nil)) (by rfl))
      (pss_cons (ps_while PassesOwn.never (pt_cmpR op_ne (pv 1) pe_str (nomark _))
        (pss_cons (ps_expr (pe_bm PySem.F.plainAttrs_list PySem.F.slot_list_insert PySem.F.type_list_insert mt_insert (pv 3) (pa_cons pe_int (pa_cons (pv 1) pa_nil))))
        (pss_one (ps_set (i := 1) sc_way.nd rfl (.inl rfl) (pe_dget hu (pv 2) (pv 1) (fun _ _ => rfl))))))
      (pss_one (ps_ret (pv 3)))), ?_⟩
    refine ⟨_, rfl, p, rfl, ⟨_, SqL.of hp⟩, fun Dl hDl => ?_⟩
    refine lc_list (K := K) (a := p) (xs := as.map V.ref) (fun i H' => ∃ ps : List Addr, Same H H' ∧ H' Dl = some (.lst (ps.map V.ref)) ∧ Paired (fun q (kv : Key × V) => SqT K H' q [kV kv.1, kv.2]) ps (kvF (fun r => .str r.fo) (rs.take i))) ⟨[], Same.new hDl, upd_same, .nil⟩ (fun i H' _ ⟨_, s, _⟩ => s.seq (SqL.of hp)) ?_ ?_
    · rintro i x H2 hx ⟨ps, sm, hD2, pr⟩
      rw [List.getElem?_map] at hx
      obtain ⟨ra, hra, rfl⟩ := Option.map_eq_some_iff.mp hx
      obtain ⟨r, hr'⟩ : ∃ r, rs[i]? = some r := ⟨rs[i]'(by rw [← hrows.len]; exact (List.getElem?_eq_some_iff.mp hra).1), List.getElem?_eq_getElem _⟩
      have e := sm _ _ (hrows.at_ i ra r hra hr')
      refine ⟨rfl, tYes_if ⟨_, rfl, ra, _, _, _, rfl, rfl, sqT e, atI0 _ _ _ _, _, rfl, ra, _, _, _, rfl, rfl, sqT e, atI1 _ _ _ _, (by show 2 ≤ sizeLine; decide), fun t ht => ?_⟩⟩
      have nDt : Dl ≠ t := ne_of_none hD2 ht
      have pl := pr.length
      refine ⟨ps.map V.ref, by rw [upd_ne nDt]; exact hD2, small1000 (by rw [List.length_map, pl]; unfold kvF; rw [List.length_map, List.length_take]; omega), ps ++ [t], fun b o eb => ?_, by rw [upd_same, List.map_append]; rfl, ?_⟩
      · rw [upd_ne (fun y => by rw [y, hDl] at eb; cases eb), upd_ne (ne_of_none (sm _ _ eb) ht)]
        exact sm _ _ eb
      · have ek : kvF (fun r => V.str r.fo) (rs.take (i + 1)) = kvF (fun r => V.str r.fo) (rs.take i) ++ [(.inr r.nm, .str r.fo)] := by
          rw [take_more hr']; unfold kvF; rw [List.map_append]; rfl
        rw [ek]
        have keep : ∀ {b : Addr} {xs : List V}, SqT K H2 b xs → SqT K (upd (upd H2 t (.tup [V.str r.nm, .str r.fo])) Dl (.lst (ps.map V.ref ++ [V.ref t]))) b xs := fun {b xs} h => by
          rcases h with (h | ⟨o, h⟩) | h
          · exact .inl (.inl (by rw [upd_ne (fun y => by rw [y, hD2] at h; cases h), upd_ne (ne_of_none h ht)]; exact h))
          · exact .inl (.inr ⟨o, by rw [upd_ne (fun y => by rw [y, hD2] at h; cases h), upd_ne (ne_of_none h ht)]; exact h⟩)
          · exact .inr h
        exact (pr.mono fun _ _ h => keep h).snoc (sqT (by rw [upd_ne nDt.symm]; exact upd_same))
    · rintro H2 ⟨ps, sm, hD2, pr⟩
      rw [List.length_map, hrows.len, List.take_length] at pr
      refine ⟨Dl, ps, kvF (fun r => .str r.fo) rs, rfl, SqL.of hD2, pr, fun fd hfd => ?_⟩
      rw [merge_all _ hv]
      refine ⟨Nat.zero_le _, fun fo hfo => ⟨_, _, rfl, ?_⟩⟩
      have n1 : fd ≠ fo := fun y => by rw [← y, upd_same] at hfo; cases hfo
      have s3 : Same H (upd (upd H2 fd (.dK (kvF (fun r => .str r.fo) rs))) fo (.lst [])) := (sm.trans (Same.new hfd)).trans (Same.new hfo)
      have fofree : H fo = none := (sm.trans (Same.new hfd)).free hfo
      refine while_by (fun σ H' => ∃ (z' : Str) (v : Option V) (fs : List Str), σ = [some (.ref p), some (.str z'), some (.ref fd), some (.ref fo), v] ∧ (z' = ("top" : Str) ∨ z' ∈ names rs) ∧ Same H H' ∧ H' fd = some (.dK (kvF (fun r => .str r.fo) rs)) ∧ H' fo = some (.lst (fs.map V.str)) ∧ wayOf rs z' ++ fs = wayOf rs z) (muWay rs)
        ⟨z, none, [], rfl, hz, s3, by rw [upd_ne n1]; exact upd_same, upd_same, by simp⟩ ?_ (fun σ H Q Q' hQ ⟨v, e, sc, k, e2, q⟩ => ⟨v, e, sc, k, e2, hQ _ _ q⟩)
      rintro σ H4 ⟨z', v, fs, rfl, hz', s4, hfd4, hfo4, ew⟩
      refine ⟨_, rfl, rfl, _, rfl, ?_⟩
      refine ite2 (fun hc => ?_) (fun hc => ?_)
      · have hn : z' ≠ ("top" : Str) := fun e => by rw [e] at hc; simp at hc
        have hin := hz'.resolve_left hn
        obtain ⟨r, e1, hrm, rfl⟩ := rowOf_some hin
        have ws := way_step hv hrm
        have lw := way_len (rs := rs) (z := z)
        have lf : fs.length ≤ 100 := by
          have := congrArg List.length ew
          rw [List.length_append] at this
          omega
        refine ⟨_, rfl, .inl ⟨rfl, _, SqL.of hfo4⟩, _, rfl, fo, _, 0, _, rfl, rfl, hfo4, small1000 (by rw [List.length_map]; omega), by decide, by decide, ?_⟩
        have n1' : fd ≠ fo := n1
        refine ⟨_, rfl, _, rfl, fd, .str r.fo, rfl, ?_, ?_⟩
        · have dg := DGet.k (k := Sum.inr r.nm) (show (upd H4 fo (.lst ((fs.map V.str).take (0 : Int).toNat ++ [V.str r.nm] ++ (fs.map V.str).drop (0 : Int).toNat))) fd = some (.dK (kvF (fun r => .str r.fo) rs)) from by rw [upd_ne n1']; exact hfd4)
          rw [valV_kvF, show (rs.find? fun q => decide (q.nm = r.nm)) = some r from e1] at dg
          exact dg
        · refine ⟨⟨r.fo, v, r.nm :: fs, rfl, hv.foAll hrm, fun b o e => ?_, by rw [upd_ne n1']; exact hfd4, upd_same, ?_⟩, ?_⟩
          · rw [upd_ne (fun y => by rw [y, fofree] at e; cases e)]
            exact s4 _ _ e
          · rw [← ew, ws]; simp
          · show (wayOf rs r.fo).length < (wayOf rs r.nm).length
            rw [ws]; simp
      · have ht : z' = ("top" : Str) := Classical.byContradiction fun e => hc (by
          show (!decide (V.str z' = V.str ("top" : Str))) = true
          rw [decide_eq_false (fun q => e (V.str.inj q))]; rfl)
        refine ⟨_, rfl, hq fo H4 fofree s4 ?_⟩
        rw [hfo4, ← ew, ht, way_top hv]; rfl
end
end Ts

set_option maxRecDepth 100000
set_option maxHeartbeats 4000000
namespace Ts
open PySem L2
/-! ### what changes a tree -/
theorem Valid.append {pre L : List Row} (h : Valid pre) (k : ∀ i r, L[i]? = some r → Fits (pre ++ L.take i) r) : Valid (pre ++ L) := by
  intro i r hr
  rcases Nat.lt_or_ge i pre.length with hi | hi
  · rw [List.getElem?_append_left hi] at hr
    rw [List.take_append_of_le_length (Nat.le_of_lt hi)]
    exact h i r hr
  · rw [List.getElem?_append_right hi] at hr
    have e : (pre ++ L).take i = pre ++ L.take (i - pre.length) := by
      rw [List.take_append, List.take_of_length_le hi]
    rw [e]
    exact k _ _ hr
/-- where a kept row stood -/
theorem filter_at {p : Row → Bool} : ∀ {rs : List Row} {i : Nat} {r : Row}, (rs.filter p)[i]? = some r → ∃ j, rs[j]? = some r ∧ p r = true ∧ (rs.filter p).take i = (rs.take j).filter p
  | [], _, _, h => by simp at h
  | q :: rs, i, r, h => by
    by_cases e : p q = true
    · rw [List.filter_cons_of_pos e] at h ⊢
      cases i with
      | zero =>
        have : q = r := by simpa using h
        subst this
        exact ⟨0, rfl, e, by simp⟩
      | succ i =>
        obtain ⟨j, h1, h2, h3⟩ := filter_at (rs := rs) (i := i) (r := r) (by simpa using h)
        refine ⟨j + 1, by simpa using h1, h2, ?_⟩
        rw [List.take_succ_cons, List.take_succ_cons, List.filter_cons_of_pos e, h3]
    · rw [List.filter_cons_of_neg e] at h ⊢
      obtain ⟨j, h1, h2, h3⟩ := filter_at (rs := rs) (i := i) (r := r) h
      refine ⟨j + 1, by simpa using h1, h2, ?_⟩
      rw [List.take_succ_cons, List.filter_cons_of_neg e, h3]
theorem Valid.filter {rs : List Row} {p : Row → Bool} (h : Valid rs) (hp : ∀ r ∈ rs, p r = true → ∀ q ∈ rs, q.nm = r.fo → p q = true) : Valid (rs.filter p) := by
  intro i r hr
  obtain ⟨j, h1, h2, h3⟩ := filter_at hr
  rw [h3]
  have f := h j r h1
  refine ⟨f.shape, f.top, fun hm => ?_, ?_, f.kind, f.price⟩
  · obtain ⟨q, hq, e⟩ := List.mem_map.mp hm
    exact f.new (List.mem_map.mpr ⟨q, (List.mem_filter.mp hq).1, e⟩)
  · rcases f.home with e | ⟨q, hq, e1, e2⟩
    · exact .inl e
    · exact .inr ⟨q, List.mem_filter.mpr ⟨hq, hp r (List.mem_of_getElem? h1) h2 q (List.mem_of_mem_take hq) e1⟩, e1, e2⟩
/-- what lies beneath z, z with it -/
def under (rs : List Row) (z : Str) (r : Row) : Bool := decide (z ∈ wayOf rs r.nm)
theorem under_self {rs : List Row} (h : Valid rs) {z : Str} {r : Row} (hr : r ∈ rs) (e : r.nm = z) : under rs z r = true := by
  unfold under
  rw [← e]
  exact decide_eq_true (way_self h (List.mem_map.mpr ⟨r, hr, rfl⟩))
theorem under_iff {rs : List Row} (h : Valid rs) {z : Str} (hz : z ≠ ("top" : Str)) {r : Row} (hr : r ∈ rs) : under rs z r = (decide (r.nm = z) || isIn rs z r) := by
  by_cases e : r.nm = z
  · rw [under_self h hr e, decide_eq_true e, Bool.true_or]
  · rw [decide_eq_false e, Bool.false_or]
    unfold isIn under
    rw [decide_eq_true e, decide_eq_false hz, Bool.true_and, Bool.false_or]
theorem gone_iff {rs : List Row} (h : Valid rs) {z : Str} (hz : z ≠ ("top" : Str)) {r : Row} (hr : r ∈ rs) : decide (r.nm ∈ z :: belowL rs z) = under rs z r := by
  rw [under_iff h hz hr]
  by_cases e : r.nm = z
  · rw [decide_eq_true e, Bool.true_or]
    exact decide_eq_true (by rw [e]; exact List.mem_cons_self ..)
  · rw [decide_eq_false e, Bool.false_or]
    by_cases i : isIn rs z r = true
    · rw [i]
      exact decide_eq_true (List.mem_cons_of_mem _ (List.mem_map.mpr ⟨r, List.mem_filter.mpr ⟨hr, i⟩, rfl⟩))
    · rw [Bool.not_eq_true] at i
      rw [i]
      refine decide_eq_false fun hm => ?_
      rcases List.mem_cons.mp hm with q | q
      · exact e q
      · obtain ⟨r2, h2, e2⟩ := List.mem_map.mp q
        obtain ⟨h3, h4⟩ := List.mem_filter.mp h2
        unfold isIn at h4 i
        rw [e2] at h4
        rw [h4] at i
        cases i
/-- a row whose folder lies beneath z does so, too -/
theorem under_up {rs : List Row} (h : Valid rs) {z : Str} {r q : Row} (hr : r ∈ rs) (hq : q ∈ rs) (e : q.nm = r.fo) (hu : under rs z q = true) : under rs z r = true := by
  unfold under at hu ⊢
  rw [way_step h hr, ← e]
  exact decide_eq_true (List.mem_append_left _ (of_decide_eq_true hu))
def lessL (rs : List Row) (z : Str) : List Row := rs.filter fun r => !under rs z r
theorem less_valid {rs : List Row} (h : Valid rs) (z : Str) : Valid (lessL rs z) :=
  h.filter fun r hr hp q hq e => by
    cases hu : under rs z q with
    | false => rfl
    | true => rw [under_up h hr hq e hu] at hp; cases hp
/-- the rows behind a move -/
def movedL (rs : List Row) (m : Row) (fo : Str) : List Row := lessL rs m.nm ++ ({ m with fo := fo } :: rs.filter (isIn rs m.nm))
theorem moved_valid {rs : List Row} (h : Valid rs) {m : Row} (hm : m ∈ rs) {fo : Str} (hf : fo = ("top" : Str) ∨ ∃ q ∈ rs, q.nm = fo ∧ q.ki = ("folder" : Str) ∧ under rs m.nm q = false) : Valid (movedL rs m fo) := by
  have mt : m.nm ≠ ("top" : Str) := fun e => top_not h (by rw [← e]; exact List.mem_map.mpr ⟨m, hm, rfl⟩)
  obtain ⟨k, hk, ek⟩ := List.mem_iff_getElem.mp hm
  have fm := h k m (by rw [← ek]; exact List.getElem?_eq_getElem hk)
  have v1 : Valid (lessL rs m.nm ++ [{ m with fo := fo }]) := by
    refine (less_valid h m.nm).snoc ⟨fm.shape, fm.top, fun hx => ?_, ?_, fm.kind, fm.price⟩
    · obtain ⟨q, hq, e⟩ := List.mem_map.mp hx
      obtain ⟨q1, q2⟩ := List.mem_filter.mp hq
      rw [under_self h q1 e] at q2
      cases q2
    · rcases hf with e | ⟨q, hq, e1, e2, e3⟩
      · exact .inl e
      · exact .inr ⟨q, List.mem_filter.mpr ⟨hq, by rw [e3]; rfl⟩, e1, e2⟩
  have e : movedL rs m fo = (lessL rs m.nm ++ [{ m with fo := fo }]) ++ rs.filter (isIn rs m.nm) := by unfold movedL; simp
  rw [e]
  refine v1.append fun i r hr => ?_
  obtain ⟨j, h1, h2, h3⟩ := filter_at hr
  have f := h j r h1
  have hrm := List.mem_of_getElem? h1
  have ur : under rs m.nm r = true := by rw [under_iff h mt hrm, h2, Bool.or_true]
  have nz : r.nm ≠ m.nm := fun e => by unfold isIn at h2; simp [e] at h2
  rw [h3]
  refine ⟨f.shape, f.top, fun hx => ?_, ?_, f.kind, f.price⟩
  · rw [List.map_append, List.map_append] at hx
    rcases List.mem_append.mp hx with hx | hx
    · rcases List.mem_append.mp hx with hx | hx
      · obtain ⟨q, hq, e⟩ := List.mem_map.mp hx
        obtain ⟨q1, q2⟩ := List.mem_filter.mp hq
        have : under rs m.nm q = true := by unfold under at ur ⊢; rw [e]; exact ur
        rw [this] at q2
        cases q2
      · simp at hx
        exact nz hx
    · obtain ⟨q, hq, e⟩ := List.mem_map.mp hx
      exact f.new (List.mem_map.mpr ⟨q, (List.mem_filter.mp hq).1, e⟩)
  · rcases f.home with e | ⟨q, hq, e1, e2⟩
    · exfalso
      unfold isIn at h2
      rw [decide_eq_true nz, decide_eq_false mt, Bool.true_and, Bool.false_or, way_step h hrm, e, way_top h] at h2
      simp at h2
      exact nz h2.symm
    · by_cases eq1 : q.nm = m.nm
      · have : q = m := by
          have a := rowOf_at h (i := k) (r := m) (by rw [← ek]; exact List.getElem?_eq_getElem hk)
          obtain ⟨k2, hk2, ek2⟩ := List.mem_iff_getElem.mp (List.mem_of_mem_take hq)
          have b := rowOf_at h (i := k2) (r := q) (by rw [← ek2]; exact List.getElem?_eq_getElem hk2)
          rw [eq1, a] at b
          exact (Option.some.inj b).symm
        subst this
        exact .inr ⟨{ q with fo := fo }, by simp, e1, e2⟩
      · refine .inr ⟨q, List.mem_append_right _ (List.mem_filter.mpr ⟨hq, ?_⟩), e1, e2⟩
        have hqm := List.mem_of_mem_take hq
        have : under rs m.nm q = true := by
          unfold under at ur ⊢
          rw [way_step h hrm, ← e1] at ur
          have := of_decide_eq_true ur
          rcases List.mem_append.mp this with x | x
          · exact decide_eq_true x
          · exact absurd (List.mem_singleton.mp x).symm nz
        rw [under_iff h mt hqm, decide_eq_false eq1, Bool.false_or] at this
        exact this
theorem names_inj {rs : List Row} (h : Valid rs) {q m : Row} (hq : q ∈ rs) (hm : m ∈ rs) (e : q.nm = m.nm) : q = m := by
  obtain ⟨k, hk, ek⟩ := List.mem_iff_getElem.mp hm
  obtain ⟨k2, hk2, ek2⟩ := List.mem_iff_getElem.mp hq
  have a := rowOf_at h (i := k) (r := m) (by rw [← ek]; exact List.getElem?_eq_getElem hk)
  have b := rowOf_at h (i := k2) (r := q) (by rw [← ek2]; exact List.getElem?_eq_getElem hk2)
  rw [e, a] at b
  exact (Option.some.inj b).symm
/-- of all beneath z, z stands first -/
theorem under_split {rs : List Row} (h : Valid rs) {m : Row} (hm : m ∈ rs) : rs.filter (under rs m.nm) = m :: rs.filter (isIn rs m.nm) := by
  have mt : m.nm ≠ ("top" : Str) := fun e => top_not h (by rw [← e]; exact List.mem_map.mpr ⟨m, hm, rfl⟩)
  obtain ⟨k, hk, ek⟩ := List.mem_iff_getElem.mp hm
  have hkm : rs[k]? = some m := by rw [← ek]; exact List.getElem?_eq_getElem hk
  have e0 : rs = rs.take k ++ m :: rs.drop (k + 1) := by
    rw [← ek, List.getElem_cons_drop, List.take_append_drop]
  have a1 : (rs.take k).filter (under rs m.nm) = [] := by
    rw [List.filter_eq_nil_iff]
    intro q hq hu
    have hqn : q.nm ∈ names (rs.take k) := List.mem_map.mpr ⟨q, hq, rfl⟩
    exact (h k m hkm).new (way_pre h k hqn (of_decide_eq_true hu))
  have a2 : (rs.take k).filter (isIn rs m.nm) = [] := by
    rw [List.filter_eq_nil_iff]
    intro q hq hu
    have hqr := List.mem_of_mem_take hq
    have : under rs m.nm q = true := by rw [under_iff h mt hqr, hu, Bool.or_true]
    exact (List.filter_eq_nil_iff.mp a1) q hq this
  have b1 : under rs m.nm m = true := under_self h hm rfl
  have b2 : isIn rs m.nm m = false := by unfold isIn; simp
  have c1 : (rs.drop (k + 1)).filter (under rs m.nm) = (rs.drop (k + 1)).filter (isIn rs m.nm) := by
    refine List.filter_congr fun q hq => ?_
    have hqr := List.mem_of_mem_drop hq
    rw [under_iff h mt hqr]
    have : ¬ q.nm = m.nm := fun e => by
      have e2 := names_inj h hqr hm e
      rw [e2] at hq
      obtain ⟨j, hj, ej⟩ := List.mem_iff_getElem.mp hq
      rw [List.getElem_drop] at ej
      rw [List.length_drop] at hj
      have f := h (k + 1 + j) m (by rw [← ej]; exact List.getElem?_eq_getElem _)
      exact f.new (List.mem_map.mpr ⟨m, List.mem_take_iff_getElem.mpr ⟨k, by omega, ek⟩, rfl⟩)
    rw [decide_eq_false this, Bool.false_or]
  have l : ∀ p : Row → Bool, rs.filter p = (rs.take k).filter p ++ (m :: rs.drop (k + 1)).filter p := fun p => by
    rw [← List.filter_append, ← e0]
  rw [l (under rs m.nm), l (isIn rs m.nm), a1, a2, List.filter_cons_of_pos b1, List.filter_cons_of_neg (by rw [b2]; simp), c1]
  rfl
end Ts

set_option maxRecDepth 100000
set_option maxHeartbeats 4000000
namespace Ts
open PySem L2
/-! ### what a meaning says of a box -/
/-- the default, turned as often as boxes on the way are turned -/
def turned (d : Bool) (ts : List Str) : List Str → Bool
  | [] => d
  | x :: l => turned (if x ∈ ts then !d else d) ts l
theorem turned_snoc (ts : List Str) (x : Str) : ∀ (l : List Str) (d : Bool), turned d ts (l ++ [x]) = if x ∈ ts then !(turned d ts l) else turned d ts l
  | [], d => rfl
  | y :: l, d => turned_snoc ts x l _
theorem turned_odd (ts : List Str) : ∀ (l : List Str) (d : Bool), turned d ts l = (d != decide ((l.filter fun x => decide (x ∈ ts)).length % 2 = 1))
  | [], d => by cases d <;> rfl
  | y :: l, d => by
    show turned (if y ∈ ts then !d else d) ts l = _
    rw [turned_odd ts l]
    by_cases h : y ∈ ts
    · rw [if_pos h, List.filter_cons_of_pos (by simpa using h), List.length_cons]
      rcases Nat.mod_two_eq_zero_or_one (l.filter fun x => decide (x ∈ ts)).length with e | e
      · rw [decide_eq_false (by omega), decide_eq_true (by omega)]; cases d <;> rfl
      · rw [decide_eq_true (by omega), decide_eq_false (by omega)]; cases d <;> rfl
    · rw [if_neg h, List.filter_cons_of_neg (by simpa using h)]
def valOf (rs : List Row) (d : Bool) (ts : List Str) (z : Str) : Bool := turned d ts (wayOf rs z)
theorem val_top {rs : List Row} (h : Valid rs) (d : Bool) (ts : List Str) : valOf rs d ts ("top" : Str) = d := by
  unfold valOf; rw [way_top h]; rfl
theorem val_step {rs : List Row} (h : Valid rs) (d : Bool) (ts : List Str) {r : Row} (hr : r ∈ rs) : valOf rs d ts r.nm = (valOf rs d ts r.fo != decide (r.nm ∈ ts)) := by
  unfold valOf
  rw [way_step h hr, turned_snoc]
  by_cases e : r.nm ∈ ts
  · rw [if_pos e, decide_eq_true e]; cases turned d ts (wayOf rs r.fo) <;> rfl
  · rw [if_neg e, decide_eq_false e]; cases turned d ts (wayOf rs r.fo) <;> rfl
theorem below_top {rs : List Row} (h : Valid rs) : belowL rs ("top" : Str) = names rs := by
  unfold belowL names
  have : rs.filter (isIn rs ("top" : Str)) = rs := by
    rw [List.filter_eq_self]
    intro r hr
    have : r.nm ≠ ("top" : Str) := fun e => top_not h (by rw [← e]; exact List.mem_map.mpr ⟨r, hr, rfl⟩)
    unfold isIn
    rw [decide_eq_true this, decide_eq_true rfl]; rfl
  rw [this]
/-- the values of all places, the top ahead -/
def kvM (rs : List Row) (d : Bool) (ts : List Str) (l : List Row) : List (Key × V) := (.inr ("top" : Str), .bl d) :: kvF (fun r => .bl (valOf rs d ts r.nm)) l
theorem valV_kvM {rs : List Row} (h : Valid rs) (d : Bool) (ts : List Str) {l : List Row} {z : Str} (hz : z = ("top" : Str) ∨ (z ≠ ("top" : Str) ∧ z ∈ names l)) : valV (kvM rs d ts l) (.inr z : Key) = some (.bl (valOf rs d ts z)) := by
  rcases hz with rfl | ⟨hn, hz⟩
  · show valV ((.inr ("top" : Str), .bl d) :: kvF (fun r => .bl (valOf rs d ts r.nm)) l) (.inr ("top" : Str) : Key) = _
    rw [valV_pos rfl, val_top h]
  · show valV ((.inr ("top" : Str), .bl d) :: kvF (fun r => .bl (valOf rs d ts r.nm)) l) (.inr z : Key) = _
    rw [valV_neg (fun q => hn (Sum.inr.inj q).symm), valV_kvF]
    obtain ⟨r, e, _, e2⟩ := rowOf_some hz
    rw [show (l.find? fun r => decide (r.nm = z)) = some r from e]
    show some (V.bl (valOf rs d ts r.nm)) = _
    rw [e2]
theorem kvM_more {rs : List Row} (h : Valid rs) (d : Bool) (ts : List Str) {i : Nat} {r : Row} (hr : rs[i]? = some r) : putK (kvM rs d ts (rs.take i)) (.inr r.nm) (.bl (valOf rs d ts r.nm)) = kvM rs d ts (rs.take (i + 1)) := by
  have f := h i r hr
  rw [putK_new _ (by
    show (valV ((.inr ("top" : Str), .bl d) :: kvF (fun r => .bl (valOf rs d ts r.nm)) (rs.take i)) (.inr r.nm : Key)) = none
    rw [valV_neg (fun q => f.top (Sum.inr.inj q).symm), valV_kvF, find_none f.new]; rfl), take_more hr]
  unfold kvM kvF
  rw [List.map_append]
  rfl
def spValues (C : Addr) : Sp := fun vs H Q _ => ∃ (t u : Addr) (d : Bool) (ts : List Str) (rs : List Row), vs = [.ref t, .bl d, .ref u] ∧ TreeAt C H t rs ∧ H u = some (.tup (ts.map V.str)) ∧
  ∀ D H', H D = none → Same H H' → H' D = some (.dK (kvM rs d ts rs)) → Q (.ref D) H'
section
variable {P : Program} {w : World} {K : PySem.W.Frag} {mg : Str → Option Value} {base : Heap} {C : Addr}
abbrev nValues : List Str := ["tree", "default", "turns", "values", "box"]
theorem sc_values_of : FnScope nValues ["tree", "default", "turns"] (defScope s_values_of) := ⟨rfl, rfl, rfl, by decide +kernel, rfl, by decide +kernel, by decide +kernel⟩
theorem ok_values_of (D : DefAt K mg "values_of" s_values_of ["tree", "default", "turns"]) (TC : TxC K mg) (T : TxT K mg C)
    (mB : MethAt K C "below" "Tree.below" s_Tree_below ["self", "box"]) (GB : FnOk P w K mg base CX0 5 mB.f mB.fd ["self", "box"] (spListOf C belowL))
    (mF : MethAt K C "folder" "Tree.folder" s_Tree_folder ["self", "box"]) (GF : FnOk P w K mg base CX0 4 mF.f mF.fd ["self", "box"] (spGet C fun r => .str r.fo)) : FnOk P w K mg base CX0 6 D.f D.fd ["tree", "default", "turns"] (spValues C) := by
  obtain ⟨t1, gT⟩ := TC.top
  refine D.F.ok sc_values_of (fun vs H Q E h => ?_) (fun cdv A outer s H vs Q E hr h => ?_)
  · obtain ⟨t, u, d, ts, rs, rfl, _⟩ := h
    rfl
  · obtain ⟨t, u, d, ts, rs, rfl, ht, hu', hq⟩ := h
    have hu := hu_of hr
    have hr3 : Room 4 _ := hr.mono (by decide)
    refine ⟨_, pss_cons (ps_set (i := 3) sc_values_of.nd rfl (.inl rfl) (pe_disp (pps_cons (pe_glob (by rfl) gT (v := .str ("top" : Str)) ⟨_, rfl⟩) (pv 1) pps_nil) (by rfl) (by rfl) (fun z => by cases z) (by decide)))
      (pss_cons (ps_for PassesOwn.never rfl (pi_list (pe_meth (pv 0) T.cl mB.m GB hr mB.b .nil pass0 (pa_cons (pe_glob (by rfl) gT (v := .str ("top" : Str)) ⟨_, rfl⟩) pa_nil))) (pg_name (i := 4) sc_values_of.nd rfl (.inl rfl))
        (pss_one (ps_dput hu (pv 3) (pv 4) (pe_cmpR op_ne (pe_dget hu (pv 3) (pe_meth (pv 0) T.cl mF.m GF hr3 mF.b .nil pass0 (pa_cons (pv 4) pa_nil)) (fun _ _ => rfl)) (pe_cmpR op_in_seq (pv 4) (pv 2) (by rfl)) (nomark _)) rfl)))
      (pss_one (ps_ret (pv 3)))), ?_⟩
    have hv := ht.val
    have l100 := ht.len
    obtain ⟨dx, q, f, k, p, qs, h1, h2, h3, h4, h5, h6⟩ := id ht.ex
    have noB : (tf q f k p).lookup ("below" : Str) = none := tf_no _ _ _ _ (by decide +kernel) (by decide +kernel) (by decide +kernel) (by decide +kernel)
    have noF : (tf q f k p).lookup ("folder" : Str) = none := tf_no _ _ _ _ (by decide +kernel) (by decide +kernel) (by decide +kernel) (by decide +kernel)
    refine fun wd hwd => ⟨_, rfl, upd_same, [(.inr ("top" : Str), .bl d)], rfl, (by show 1 ≤ 15; decide), ?_⟩
    have sA : Same H (upd (upd H wd (.dK [])) wd (.dK (mergeK [] [(.inr ("top" : Str), .bl d)]))) := fun b o e => by
      rw [upd_ne (ne_of_none e hwd), upd_ne (ne_of_none e hwd)]; exact e
    have eA : (upd (upd H wd (.dK [])) wd (.dK (mergeK [] [(.inr ("top" : Str), .bl d)]))) wd = some (.dK (kvM rs d ts [])) := upd_same
    generalize upd (upd H wd (.dK [])) wd (.dK (mergeK [] [(.inr ("top" : Str), .bl d)])) = H1 at sA eA
    refine ⟨_, rfl, t, dx, _, rfl, sA _ _ h1, noB, t, ("top" : Str), rs, rfl, ht.same sA, .inl rfl, fun bl H2 hbl s2 e2 => ?_⟩
    rw [below_top hv] at e2
    have sB := sA.trans s2
    have nw : ∀ {b : Addr} {o : HO}, H b = some o → b ≠ wd := fun {b o} e => ne_of_none e hwd
    have nbw : bl ≠ wd := fun e => by rw [← e, hbl] at eA; cases eA
    refine ⟨bl, rfl, ⟨_, SqL.of e2⟩, ?_⟩
    refine for_list (K := K) (a := bl) (xs := (names rs).map V.str) (fun i σ H' => ∃ v : Option V, σ = [some (.ref t), some (.bl d), some (.ref u), some (.ref wd), v] ∧ SB wd H2 H' ∧ H' wd = some (.dK (kvM rs d ts (rs.take i)))) ⟨_, rfl, SB.refl _ _, s2 _ _ eA⟩ (fun i σ H' _ ⟨_, _, sb, _⟩ => SqL.of (sb _ _ nbw e2)) ?_ ?_
    · rintro i x σ H3 hx ⟨v, rfl, sb, hw⟩
      unfold names at hx
      rw [List.getElem?_map, List.getElem?_map] at hx
      obtain ⟨n1, hn1, rfl⟩ := Option.map_eq_some_iff.mp hx
      obtain ⟨r, hr', rfl⟩ := Option.map_eq_some_iff.mp hn1
      have hrm := List.mem_of_getElem? hr'
      have ro := rowOf_at hv hr'
      have s3 : SB wd H H3 := (SB.of sB).trans sb
      have t3 : TreeAt C H3 t rs := by
        refine ⟨⟨dx, q, f, k, p, qs, s3 _ _ (nw h1) h1, s3 _ _ (nw h2) h2, ⟨h3.len, fun j b w hb hw => s3 _ _ (nw (h3.at_ j b w hb hw)) (h3.at_ j b w hb hw)⟩, s3 _ _ (nw h4) h4, s3 _ _ (nw h5) h5, s3 _ _ (nw h6) h6⟩, hv, l100⟩
      have fo : r.fo = ("top" : Str) ∨ (r.fo ≠ ("top" : Str) ∧ r.fo ∈ names (rs.take i)) := by
        by_cases e : r.fo = ("top" : Str)
        · exact .inl e
        · exact .inr ⟨e, (hv.fo hr').resolve_left e⟩
      have dg := DGet.k (k := Sum.inr r.fo) hw
      rw [valV_kvM hv d ts fo] at dg
      refine ⟨_, rfl, _, rfl, t, dx, _, rfl, s3 _ _ (nw h1) h1, noF, _, rfl, t, r.nm, rs, r, rfl, t3, ro, wd, _, rfl, dg, _, rfl, _, rfl, u, _, rfl, .inr (sqT (s3 _ _ (nw hu') hu')), rfl, flat_strs _, rfl, ?_⟩
      refine ⟨_, rfl, _, rfl, wd, _, rfl, DPut.k (k := Sum.inr r.nm) hw (small1000 (by unfold kvM kvF; rw [List.length_cons, List.length_map, List.length_take]; omega)), ?_⟩
      refine ⟨_, rfl, fun b o nb e => by rw [upd_ne nb]; exact sb b o nb e, ?_⟩
      rw [upd_same, ← kvM_more hv d ts hr', val_step hv d ts hrm]
      have e : (if false = true then !inV (.str r.nm) (ts.map V.str) else inV (.str r.nm) (ts.map V.str)) = decide (r.nm ∈ ts) := by
        rw [if_neg Bool.false_ne_true, inV_strs]
      rw [e]
      congr 3
      cases valOf rs d ts r.fo <;> cases decide (r.nm ∈ ts) <;> rfl
    · rintro σ H3 ⟨v, rfl, sb, hw⟩
      unfold names at hw
      rw [List.length_map, List.length_map, List.take_length] at hw
      exact ⟨_, rfl, hq wd H3 hwd (fun b o e => (SB.of sB).trans sb b o (nw e) e) hw⟩
end
end Ts

set_option maxRecDepth 100000
set_option maxHeartbeats 4000000
namespace Ts
open PySem L2
def Free (rs : List Row) (x : Str) : Prop := ∃ r, rowOf rs x = some r ∧ r.pr ≠ none
theorem Free.mem {rs : List Row} {x : Str} (h : Free rs x) : x ∈ names rs := by
  obtain ⟨r, e, _⟩ := h
  have e' : rs.find? (fun r => decide (r.nm = x)) = some r := e
  have e2 := List.find?_some e'
  exact List.mem_map.mpr ⟨r, List.mem_of_find?_eq_some e', of_decide_eq_true e2⟩
/-- a list or a tuple, the program's own ones too -/
def SqX (K : PySem.W.Frag) (H : Hp) (a : Addr) (xs : List V) : Prop := SqL K H a xs ∨ SqT K H a xs
theorem SqX.eq {K : PySem.W.Frag} {H H' : Hp} {a : Addr} {xs : List V} (h : SqX K H a xs) (e : H' a = H a) : SqX K H' a xs := by
  unfold SqX SqL SqT Rd at h ⊢
  rw [e]
  exact h
theorem SqX.keep {K : PySem.W.Frag} {H H' : Hp} {a : Addr} {xs : List V} (h : SqX K H a xs) (s : ∀ o, (∀ C dx fs, o ≠ HO.ins C dx fs) → H a = some o → H' a = some o) : SqX K H' a xs := by
  rcases h with ((h | ⟨o, h⟩) | h) | ((h | ⟨o, h⟩) | h)
  · exact .inl (.inl (.inl (s _ (fun _ _ _ z => by cases z) h)))
  · exact .inl (.inl (.inr ⟨o, s _ (fun _ _ _ z => by cases z) h⟩))
  · exact .inl (.inr h)
  · exact .inr (.inl (.inl (s _ (fun _ _ _ z => by cases z) h)))
  · exact .inr (.inl (.inr ⟨o, s _ (fun _ _ _ z => by cases z) h⟩))
  · exact .inr (.inr h)
theorem SqX.same {K : PySem.W.Frag} {H H' : Hp} {a : Addr} {xs : List V} (h : SqX K H a xs) (s : Same H H') : SqX K H' a xs := h.keep fun o _ e => s _ _ e
theorem SqX.sbm {K : PySem.W.Frag} {H H' : Hp} {a m C dx : Addr} {fs : List (Str × V)} {xs : List V} (h : SqX K H a xs) (hm : H m = some (.ins C dx fs)) (s : SB m H H') : SqX K H' a xs :=
  h.keep fun o no e => s _ _ (fun q => by rw [q, hm] at e; exact no _ _ _ (Option.some.inj e).symm) e
/-- x itself, a list or a tuple, in slot i -/
def iSeqX (K : PySem.W.Frag) (i : Nat) : TI := fun σ H R => ∃ (a : Addr) (xs : List V), σ[i]? = some (some (.ref a)) ∧ SqX K H a xs ∧ ∀ J, Walk J xs.length (fun H' => H' a = H a) (YAt xs) → R J H
theorem pi_seqX {X : Cx} {e tg : Expr} {i : Nat} (he : PE X e (tVar i)) : PI X tg e (iSeqX X.K i) := by
  refine ⟨fun pins s σ H R I h => ?_⟩
  obtain ⟨a, xs, e1, hq, k⟩ := h
  have sub : ∀ {H' : Hp}, H' a = H a → (SqL X.K H a xs → SqL X.K H' a xs) ∧ (SqT X.K H a xs → SqT X.K H' a xs) := fun {H'} e => by
    unfold SqL SqT Rd
    rw [e]
    exact ⟨id, id⟩
  rcases hq with hq | hq
  · exact (pi_list he).run pins s σ H R I ⟨_, e1, a, rfl, ⟨_, hq⟩, k _ (walk_list.mono (fun H' e => (sub e).1 hq) fun _ _ _ _ _ _ y => y)⟩
  · exact (pi_tup he).run pins s σ H R I ⟨_, e1, a, rfl, ⟨_, hq⟩, k _ (walk_tup.mono (fun H' e => (sub e).2 hq) fun _ _ _ _ _ _ y => y)⟩
def spCheckTurns (K : PySem.W.Frag) (C : Addr) : Sp := fun vs H Q _ => ∃ (t u : Addr) (xs : List Str) (rs : List Row), vs = [.ref t, .ref u] ∧ TreeAt C H t rs ∧ SqX K H u (xs.map V.str) ∧ (∀ x ∈ xs, Free rs x) ∧ Q .non H
def mf (t u k : Addr) (d : Bool) : List (Str × V) := putF "known" (.ref k) (putF "turns" (.ref u) (putF "default" (.bl d) (putF "tree" (.ref t) [])))
/-- the turned boxes, in the tree's order -/
def turnsL (rs : List Row) (xs : List Str) : List Str := (names rs).filter fun z => decide (z ∈ xs)
theorem turnsL_norm (rs : List Row) (xs : List Str) : turnsL rs xs = turnsL rs (turnsL rs xs) := by
  unfold turnsL
  refine List.filter_congr fun z hz => ?_
  by_cases e : z ∈ xs
  · simp [e, hz]
  · simp [e]
structure MeanAt (C CM : Addr) (H : Hp) (m t : Addr) (rs : List Row) (d : Bool) (ts : List Str) : Prop where
  ex : ∃ (dx u k : Addr), H m = some (.ins CM dx (mf t u k d)) ∧ H u = some (.tup (ts.map V.str)) ∧ H k = some (.dK (kvM rs d ts rs))
  tree : TreeAt C H t rs
  norm : ts = turnsL rs ts
theorem MeanAt.sub {C CM : Addr} {H : Hp} {m t : Addr} {rs : List Row} {d : Bool} {ts : List Str} (h : MeanAt C CM H m t rs d ts) : ∀ x ∈ ts, x ∈ names rs := fun x hx => by
  rw [h.norm] at hx
  exact (List.mem_filter.mp hx).1
theorem MeanAt.len {C CM : Addr} {H : Hp} {m t : Addr} {rs : List Row} {d : Bool} {ts : List Str} (h : MeanAt C CM H m t rs d ts) : ts.length ≤ 100 := by
  rw [h.norm]
  unfold turnsL names
  have h1 := List.length_filter_le (fun z => decide (z ∈ ts)) (rs.map (·.nm))
  have h2 := h.tree.len
  rw [List.length_map] at h1
  omega
theorem MeanAt.same {C CM : Addr} {H H' : Hp} {m t : Addr} {rs : List Row} {d : Bool} {ts : List Str} (h : MeanAt C CM H m t rs d ts) (s : Same H H') : MeanAt C CM H' m t rs d ts := by
  obtain ⟨dx, u, k, h1, h2, h3⟩ := h.ex
  exact ⟨⟨dx, u, k, s _ _ h1, s _ _ h2, s _ _ h3⟩, h.tree.same s, h.norm⟩
structure TxM (K : PySem.W.Frag) (mg : Str → Option Value) (CM : Addr) : Prop where
  cl : Cls K CM
  nt : NoAttr K CM "tree"
  nd : NoAttr K CM "default"
  nu : NoAttr K CM "turns"
  nk : NoAttr K CM "known"
  g : mg "Meaning" = some (.ref CM)
def spMeaningInit (K : PySem.W.Frag) (C CM : Addr) : Sp := fun vs H Q _ => ∃ (m dx t h : Addr) (d : Bool) (xs : List Str) (rs : List Row), vs = [.ref m, .ref t, .bl d, .ref h] ∧ H m = some (.ins CM dx []) ∧ TreeAt C H t rs ∧ SqX K H h (xs.map V.str) ∧ (∀ x ∈ xs, Free rs x) ∧
  ∀ H', SB m H H' → MeanAt C CM H' m t rs d (turnsL rs xs) → Q .non H'
section
variable {P : Program} {w : World} {K : PySem.W.Frag} {mg : Str → Option Value} {base : Heap} {C CM : Addr}
abbrev nCheckTurns : List Str := ["tree", "turns", "box"]
theorem sc_check_turns : FnScope nCheckTurns ["tree", "turns"] (defScope s_check_turns) := ⟨rfl, rfl, rfl, by decide +kernel, rfl, by decide +kernel, by decide +kernel⟩
theorem ok_check_turns (D : DefAt K mg "check_turns" s_check_turns ["tree", "turns"]) (Db : DefAt K mg "check_box" s_check_box ["tree", "thing"]) (Gb : FnOk P w K mg base CX0 3 Db.f Db.fd ["tree", "thing"] (spBox C)) (T : TxT K mg C)
    (mP : MethAt K C "price" "Tree.price" s_Tree_price ["self", "box"]) (GP : FnOk P w K mg base CX0 4 mP.f mP.fd ["self", "box"] (spGet C fun r => prV r.pr)) : FnOk P w K mg base CX0 5 D.f D.fd ["tree", "turns"] (spCheckTurns K C) := by
  refine D.F.ok sc_check_turns (fun vs H Q E h => ?_) (fun cdv A outer s H vs Q E hr h => ?_)
  · obtain ⟨t, u, xs, rs, rfl, _⟩ := h
    rfl
  · obtain ⟨t, u, xs, rs, rfl, ht, hx, hfree, hq⟩ := h
    have hr2 : Room 3 _ := hr.mono (by decide)
    obtain ⟨dx, q, f, k, p, qs, h1, h2, h3, h4, h5, h6⟩ := id ht.ex
    have noP : (tf q f k p).lookup ("price" : Str) = none := tf_no _ _ _ _ (by decide +kernel) (by decide +kernel) (by decide +kernel) (by decide +kernel)
    refine ⟨_, pss_cons (ps_for PassesOwn.never rfl (pi_seqX (i := 1) (pv 1)) (pg_name (i := 2) sc_check_turns.nd rfl (.inl rfl))
        (pss_one (ps_expr (pe_call Gb hr2 rfl Db.g Db.F.kp Db.b .nil pass0 (pa_cons (pv 0) (pa_cons (pv 2) pa_nil))))))
      (pss_one (ps_for PassesOwn.never rfl (pi_seqX (i := 1) (pv 1)) (pg_name (i := 2) sc_check_turns.nd rfl (.inl rfl))
        (pss_one (ps_if (pt_cmpR op_isN (pe_meth (pv 0) T.cl mP.m GP hr mP.b .nil pass0 (pa_cons (pv 2) pa_nil)) pe_non (nomark _)) (pss_one ps_never) pss_nil)))), ?_⟩
    have at_ : ∀ {i : Nat} {x : V}, (xs.map V.str)[i]? = some x → ∃ z, x = .str z ∧ Free rs z := fun {i x} hx => by
      rw [List.getElem?_map] at hx
      obtain ⟨z, hz, rfl⟩ := Option.map_eq_some_iff.mp hx
      exact ⟨z, rfl, hfree z (List.mem_of_getElem? hz)⟩
    refine ⟨u, _, rfl, hx, fun J W => ?_⟩
    refine for_it W (fun i σ H' => ∃ v : Option V, σ = [some (.ref t), some (.ref u), v] ∧ H' = H) ⟨none, rfl, rfl⟩ (fun i σ H' _ ⟨_, _, e⟩ => by rw [e]) ?_ ?_
    · rintro i x σ H2 H3 hi ⟨v, rfl, rfl⟩ ⟨rfl, hxi⟩
      obtain ⟨z, rfl, hz⟩ := at_ hxi
      exact ⟨_, rfl, _, rfl, t, z, rs, rfl, ht, hz.mem, _, rfl, rfl⟩
    rintro σ H2 ⟨v, rfl, rfl⟩
    refine ⟨u, _, rfl, hx, fun J W => ?_⟩
    refine for_it W (fun i σ H' => ∃ v : Option V, σ = [some (.ref t), some (.ref u), v] ∧ H' = H2) ⟨v, rfl, rfl⟩ (fun i σ H' _ ⟨_, _, e⟩ => by rw [e]) ?_ ?_
    · rintro i x σ H3 H4 hi ⟨v, rfl, rfl⟩ ⟨rfl, hxi⟩
      obtain ⟨z, rfl, r, hr', hp⟩ := at_ hxi
      refine ⟨_, rfl, t, dx, _, rfl, h1, noP, _, rfl, t, z, rs, r, rfl, ht, hr', ?_⟩
      have e2 : decide ((fun r : Row => prV r.pr) r = V.non) = false := by
        cases e : r.pr with
        | none => exact absurd e hp
        | some i => show decide (prV r.pr = V.non) = false; rw [e]; exact decide_eq_false (fun h => by cases h)
      refine ⟨rfl, _, rfl, ?_⟩
      rw [e2]
      exact iteF ⟨_, rfl, rfl⟩
    · rintro σ H3 ⟨v, rfl, rfl⟩
      exact hq
end
end Ts

set_option maxRecDepth 100000
set_option maxHeartbeats 4000000
namespace Ts
open PySem L2
theorem mtd_ : ¬ (("tree" : Str) = "default") := by decide +kernel
theorem mtu_ : ¬ (("tree" : Str) = "turns") := by decide +kernel
theorem mtk_ : ¬ (("tree" : Str) = "known") := by decide +kernel
theorem mdu_ : ¬ (("default" : Str) = "turns") := by decide +kernel
theorem mdk_ : ¬ (("default" : Str) = "known") := by decide +kernel
theorem muk_ : ¬ (("turns" : Str) = "known") := by decide +kernel
theorem mf_t (t u k : Addr) (d : Bool) : (mf t u k d).lookup ("tree" : Str) = some (.ref t) := by
  unfold mf
  rw [lookup_putF, if_neg mtk_, lookup_putF, if_neg mtu_, lookup_putF, if_neg mtd_, lookup_putF, if_pos rfl]
theorem mf_d (t u k : Addr) (d : Bool) : (mf t u k d).lookup ("default" : Str) = some (.bl d) := by
  unfold mf
  rw [lookup_putF, if_neg mdk_, lookup_putF, if_neg mdu_, lookup_putF, if_pos rfl]
theorem mf_u (t u k : Addr) (d : Bool) : (mf t u k d).lookup ("turns" : Str) = some (.ref u) := by
  unfold mf
  rw [lookup_putF, if_neg muk_, lookup_putF, if_pos rfl]
theorem mf_k (t u k : Addr) (d : Bool) : (mf t u k d).lookup ("known" : Str) = some (.ref k) := by
  unfold mf
  rw [lookup_putF, if_pos rfl]
theorem mf_no (t u k : Addr) (d : Bool) {m : Str} (h1 : ¬ m = "tree") (h2 : ¬ m = "default") (h3 : ¬ m = "turns") (h4 : ¬ m = "known") : (mf t u k d).lookup m = none := by
  unfold mf
  rw [lookup_putF, if_neg h4, lookup_putF, if_neg h3, lookup_putF, if_neg h2, lookup_putF, if_neg h1]
  rfl
theorem turns_more {rs : List Row} {i : Nat} {r : Row} (h : rs[i]? = some r) (xs : List Str) : (names (rs.take (i + 1))).filter (fun z => decide (z ∈ xs)) = (names (rs.take i)).filter (fun z => decide (z ∈ xs)) ++ (if decide (r.nm ∈ xs) = true then [r.nm] else []) := by
  unfold names
  rw [take_more h, List.map_append, List.filter_append]
  by_cases e : r.nm ∈ xs
  · simp [e]
  · simp [e]
theorem TreeAt.sbm {C CM : Addr} {H H' : Hp} {t m dx : Addr} {rs : List Row} (h : TreeAt C H t rs) (hm : H m = some (.ins CM dx [])) (s : SB m H H') : TreeAt C H' t rs := by
  obtain ⟨tx, q, f, k, p, qs, h1, h2, h3, h4, h5, h6⟩ := h.ex
  have w : ∀ {b : Addr} {o : HO}, H b = some o → o ≠ .ins CM dx [] → H' b = some o := fun {b o} e1 no => s b o (fun eb => by rw [eb, hm] at e1; exact no (Option.some.inj e1).symm) e1
  refine ⟨⟨tx, q, f, k, p, qs, w h1 (fun e => ?_), w h2 (fun h => by cases h), ⟨h3.len, fun i b r hb hr => w (h3.at_ i b r hb hr) (fun h => by cases h)⟩, w h4 (fun h => by cases h), w h5 (fun h => by cases h), w h6 (fun h => by cases h)⟩, h.val, h.len⟩
  injection e with _ _ e3
  have e4 := tf_p q f k p
  rw [e3] at e4
  cases e4
/-- a def with defaults that lets nothing out -/
theorem okD {w : World} {P : Program} {K : PySem.W.Frag} {base : Heap} {mg : Str → Option Value} {qual x : Str} {fd : FuncData} {f : Addr} {ar : Arguments} {bo : List Stmt} {sc : Scope} {kws : List (Str × V)} {dvs : List V} {ps N : List Str} {n : Nat} {sp : Sp} (F : FunD K x qual ar bo sc dvs kws f fd) (S : FnScope N ps sc)
    (ln : ∀ vs H Q E, sp vs H Q E → vs.length = ps.length) (hb : ∀ (cdv : Value) (A : Around) (outer : List Env) (s : Shared) (H : Hp) (vs : List V) (Q : VK) (E : XK), Room n (A.deeper (PyProof.Rows.envOfC qual sc s.heap.objs.size f cdv)) → sp vs H Q E → ∃ t, PSs (cxOf CX0 P w K mg base N qual sc f cdv A outer s H E).nox bo t ∧ t { nx := fun _ H' => Q .non H', rt := Q } (start N vs) H) :
    FnOk P w K mg base CX0 (n + 1) f fd ps sp := by
  refine F.ok S ln fun cdv A outer s H vs Q E r hsp => ?_
  obtain ⟨t, h, q⟩ := hb cdv A outer s H vs Q E r hsp
  exact ⟨t, h.nox, q⟩
section
variable {P : Program} {w : World} {K : PySem.W.Frag} {mg : Str → Option Value} {base : Heap} {C CM : Addr}
abbrev nMInit : List Str := ["self", "tree", "default", "turns", "box"]
theorem sc_M_init : FnScope nMInit ["self", "tree", "default", "turns"] (defScope s_Meaning_init) := ⟨rfl, rfl, rfl, by decide +kernel, rfl, by decide +kernel, by decide +kernel⟩
theorem ok_M_init {f : Addr} {fd : FuncData} {dvs : List V} (F : FunD K "__init__" "Meaning.__init__" (defArgs s_Meaning_init) (defBody s_Meaning_init) (defScope s_Meaning_init) dvs [] f fd) (B : TxB mg) (TC : TxC K mg) (T : TxT K mg C) (M : TxM K mg CM)
    (Dc : DefAt K mg "check_turns" s_check_turns ["tree", "turns"]) (Gc : FnOk P w K mg base CX0 5 Dc.f Dc.fd ["tree", "turns"] (spCheckTurns K C))
    (Dv : DefAt K mg "values_of" s_values_of ["tree", "default", "turns"]) (Gv : FnOk P w K mg base CX0 6 Dv.f Dv.fd ["tree", "default", "turns"] (spValues C))
    (mB : MethAt K C "below" "Tree.below" s_Tree_below ["self", "box"]) (GB : FnOk P w K mg base CX0 5 mB.f mB.fd ["self", "box"] (spListOf C belowL)) :
    FnOk P w K mg base CX0 7 f fd ["self", "tree", "default", "turns"] (spMeaningInit K C CM) := by
  obtain ⟨t1, gT⟩ := TC.top
  refine okD F sc_M_init (fun vs H Q E h => ?_) (fun cdv A outer s H vs Q E hr h => ?_)
  · obtain ⟨m, dx, t, h, d, xs, rs, rfl, _⟩ := h
    rfl
  · obtain ⟨m, dx, t, h, d, xs, rs, rfl, hm, ht, hx, hfree, hq⟩ := h
    have hr4 : Room 5 _ := hr.mono (by decide)
    refine ⟨_, pss_cons (ps_if (pt_not (pt_val (pe_callB call_isi (by rfl) B.isinstance (by decide +kernel) (pa_cons (pv 2) (pa_cons (pe_bltn (by rfl) B.bool (by decide +kernel) (v := .ty "bool") rfl) pa_nil))))) (pss_one ps_never) pss_nil)
      (pss_cons (ps_expr (pe_call Gc hr4 rfl Dc.g Dc.F.kp Dc.b .nil pass0 (pa_cons (pv 1) (pa_cons (pv 3) pa_nil))))
      (pss_cons (ps_fld (pv 0) (pv 1) rfl)
      (pss_cons (ps_fld (pv 0) (pv 2) rfl)
      (pss_cons (ps_fld (pv 0) (pe_callTy call_tuple_of (by rfl) B.tuple (by decide +kernel) (pa_cons (pe_lc (own := [("box", 4)]) (g := gName 4) (tt := tTest (tOp (rIn K false) (tVar 4) (tVar 3))) (te := tVar 4) rfl sc_M_init.nd (pi_list (pe_meth (pv 1) T.cl mB.m GB hr4 mB.b .nil pass0 (pa_cons (pe_glob (by rfl) gT (v := .str ("top" : Str)) ⟨_, rfl⟩) pa_nil))) (blkOk_by (N := nMInit) (sc := defScope s_Meaning_init) (by decide +kernel))
          (fun _ _ _ _ _ => pg_name (i := 4) sc_M_init.nd rfl (Or.inl rfl)) (fun _ _ _ _ _ => by exact pts_one (pt_cmpR op_in_seq (pv 4) (pv 3) (by rfl))) (fun _ _ _ _ _ => pv 4)) pa_nil)) rfl)
      (pss_one (ps_fld (pv 0) (pe_call Gv hr rfl Dv.g Dv.F.kp Dv.b .nil pass0 (pa_cons (pv 1) (pa_cons (pv 2) (pa_cons (pe_fld (pv 0) rfl) pa_nil)))) rfl)))))), ?_⟩
    have hv := ht.val
    have l100 := ht.len
    obtain ⟨tx, q, f, k, p, qs, h1, _⟩ := id ht.ex
    have noB : (tf q f k p).lookup ("below" : Str) = none := tf_no _ _ _ _ (by decide +kernel) (by decide +kernel) (by decide +kernel) (by decide +kernel)
    refine ⟨_, rfl, _, _, _, _, true, rfl, .ty "bool", .base (.bl d), kit_ty (by decide +kernel), _, rfl, iteF ?_⟩
    refine ⟨_, rfl, _, rfl, t, h, xs, rs, rfl, ht, hx, hfree, ?_⟩
    refine ⟨_, rfl, _, rfl, m, CM, dx, _, rfl, hm, M.cl, M.nt, (by show 0 < 1000; decide), ?_⟩
    refine ⟨_, rfl, _, rfl, m, CM, dx, _, rfl, upd_same, M.cl, M.nd, (Nat.lt_of_le_of_lt (putF_len _ _ _) (by decide)), ?_⟩
    obtain ⟨Hb, Eb⟩ : ∃ Hx, Hx = upd (upd H m (.ins CM dx (putF "tree" (.ref t) []))) m (.ins CM dx (putF "default" (.bl d) (putF "tree" (.ref t) []))) := ⟨_, rfl⟩
    have bm : Hb m = some (.ins CM dx (putF "default" (.bl d) (putF "tree" (.ref t) []))) := by rw [Eb]; exact upd_same
    have sb : SB m H Hb := fun b o nb e => by rw [Eb, upd_ne nb, upd_ne nb]; exact e
    rw [← Eb]
    clear Eb
    have tb := ht.sbm hm sb
    have hxb : SqX K Hb h (xs.map V.str) := hx.sbm hm sb
    have htm : Hb t = some (.ins C tx (tf q f k p)) := by
      refine sb _ _ (fun e => ?_) h1
      rw [e, hm] at h1
      have e3 := Option.some.inj h1
      injection e3 with _ _ e3
      have e4 := tf_p q f k p
      rw [← e3] at e4
      cases e4
    refine ⟨_, rfl, t, tx, _, rfl, htm, noB, t, ("top" : Str), rs, rfl, tb, .inl rfl, fun bl H2 hbl s2 e2 => ?_⟩
    rw [below_top hv] at e2
    refine ⟨bl, rfl, ⟨_, SqL.of e2⟩, fun D hD => ?_⟩
    have hx2 := hxb.same s2
    refine lc_list (K := K) (a := bl) (xs := (names rs).map V.str) (fun i H' => Same H2 H' ∧ H' D = some (.lst (((names (rs.take i)).filter (fun z => decide (z ∈ xs))).map V.str))) ⟨Same.new hD, upd_same⟩ (fun i H' _ m => m.1.seq (SqL.of e2)) ?_ ?_
    · rintro i x H3 hxi ⟨s3, hD3⟩
      unfold names at hxi
      rw [List.getElem?_map, List.getElem?_map] at hxi
      obtain ⟨n1, hn1, rfl⟩ := Option.map_eq_some_iff.mp hxi
      obtain ⟨r, hr', rfl⟩ := Option.map_eq_some_iff.mp hn1
      have sz : (((names (rs.take i)).filter (fun z => decide (z ∈ xs))).map V.str).length < sizeLine := small1000 (by
        rw [List.length_map]
        have h1 := List.length_filter_le (fun z => decide (z ∈ xs)) (names (rs.take i))
        unfold names at h1 ⊢
        rw [List.length_map, List.length_take] at h1
        omega)
      refine ⟨rfl, _, rfl, _, rfl, h, _, rfl, (hx2.same s3), rfl, flat_strs _, _, rfl, ?_⟩
      have e : (if false = true then !inV (.str r.nm) (xs.map V.str) else inV (.str r.nm) (xs.map V.str)) = decide (r.nm ∈ xs) := by
        rw [if_neg Bool.false_ne_true, inV_strs]
      rw [e]
      refine ite2 (fun hc => ?_) (fun hc => ?_)
      · refine ⟨_, rfl, _, hD3, sz, fun b o eb => ?_, ?_⟩
        · rw [upd_ne (fun y => by rw [y, hD] at eb; cases eb)]
          exact s3 _ _ eb
        · rw [upd_same, turns_more hr', if_pos hc, List.map_append]; rfl
      · refine ⟨s3, ?_⟩
        rw [turns_more hr', if_neg hc, List.append_nil]
        exact hD3
    rintro H3 ⟨s3, hD3⟩
    rw [show ((names rs).map V.str).length = rs.length from by unfold names; rw [List.length_map, List.length_map], List.take_length] at hD3
    refine ⟨D, _, rfl, .inl ⟨SqL.of hD3, fun u hu => ?_⟩⟩
    have s4 := (s2.trans s3).trans (Same.new (o := .tup ((turnsL rs xs).map V.str)) hu)
    have e4 : (upd H3 u (.tup ((turnsL rs xs).map V.str))) u = some (.tup ((turnsL rs xs).map V.str)) := upd_same
    have e4' : (upd H3 u (.tup (((names rs).filter (fun z => decide (z ∈ xs))).map V.str))) = upd H3 u (.tup ((turnsL rs xs).map V.str)) := rfl
    rw [e4']
    have num : u ≠ m := fun e => by rw [e, (s2.trans s3) _ _ bm] at hu; cases hu
    generalize upd H3 u (.tup ((turnsL rs xs).map V.str)) = H4 at s4 e4
    refine ⟨_, rfl, m, CM, dx, _, rfl, s4 _ _ bm, M.cl, M.nu, (Nat.lt_of_le_of_lt (Nat.le_trans (putF_len _ _ _) (Nat.succ_le_succ (putF_len _ _ _))) (by decide)), ?_⟩
    obtain ⟨H5, E5⟩ : ∃ Hx, Hx = upd H4 m (.ins CM dx (putF "turns" (.ref u) (putF "default" (.bl d) (putF "tree" (.ref t) [])))) := ⟨_, rfl⟩
    have m5 : H5 m = some (.ins CM dx (putF "turns" (.ref u) (putF "default" (.bl d) (putF "tree" (.ref t) [])))) := by rw [E5]; exact upd_same
    have sb5 : SB m H H5 := fun b o nb e => by rw [E5, upd_ne nb]; exact s4 _ _ (sb b o nb e)
    have u5 : H5 u = some (.tup ((turnsL rs xs).map V.str)) := by rw [E5, upd_ne num]; exact e4
    rw [← E5]
    clear E5
    refine ⟨_, rfl, _, rfl, _, rfl, m, CM, dx, _, _, rfl, m5, M.cl, M.nu, (by rw [lookup_putF, if_pos rfl]), t, u, d, turnsL rs xs, rs, rfl, ht.sbm hm sb5, u5, fun kd H6 hkd s6 e6 => ?_⟩
    refine ⟨_, rfl, m, CM, dx, _, rfl, s6 _ _ m5, M.cl, M.nk, (Nat.lt_of_le_of_lt (Nat.le_trans (putF_len _ _ _) (Nat.succ_le_succ (Nat.le_trans (putF_len _ _ _) (Nat.succ_le_succ (putF_len _ _ _))))) (by decide)), ?_⟩
    have sb7 : SB m H (upd H6 m (.ins CM dx (mf t u kd d))) := fun b o nb e => by rw [upd_ne nb]; exact s6 _ _ (sb5 b o nb e)
    have nkm : kd ≠ m := fun e => by rw [e, m5] at hkd; cases hkd
    exact hq _ sb7 ⟨⟨dx, u, kd, upd_same, by rw [upd_ne num]; exact s6 _ _ u5, by rw [upd_ne nkm]; exact e6⟩, ht.sbm hm sb7, turnsL_norm rs xs⟩
end
end Ts

set_option maxRecDepth 100000
set_option maxHeartbeats 4000000
namespace Ts
open PySem L2
def spMValue (C CM : Addr) : Sp := fun vs H Q _ => ∃ (m t : Addr) (z : Str) (rs : List Row) (d : Bool) (ts : List Str), vs = [.ref m, .str z] ∧ MeanAt C CM H m t rs d ts ∧ (z = ("top" : Str) ∨ z ∈ names rs) ∧ Q (.bl (valOf rs d ts z)) H
def spMLen (C CM : Addr) : Sp := fun vs H Q _ => ∃ (m t : Addr) (rs : List Row) (d : Bool) (ts : List Str), vs = [.ref m] ∧ MeanAt C CM H m t rs d ts ∧ ts.length ≤ 1000 ∧ Q (.int ts.length) H
/-- what the turned boxes cost -/
def costOf (rs : List Row) (ts : List Str) : List Int := ts.map fun z => (((rowOf rs z).bind (·.pr)).getD 0)
def spMPrice (C CM : Addr) : Sp := fun vs H Q _ => ∃ (m t : Addr) (rs : List Row) (d : Bool) (ts : List Str), vs = [.ref m] ∧ MeanAt C CM H m t rs d ts ∧ ts.length ≤ 1000 ∧ (∀ z ∈ ts, Free rs z) ∧ ∀ H', Same H H' → Q (.int (costOf rs ts).sum) H'
section
variable {P : Program} {w : World} {K : PySem.W.Frag} {mg : Str → Option Value} {base : Heap} {C CM : Addr}
theorem sc_M_value : FnScope ["self", "box"] ["self", "box"] (defScope s_Meaning_value) := ⟨rfl, rfl, rfl, by decide +kernel, rfl, by decide +kernel, by decide +kernel⟩
theorem ok_M_value {f : Addr} {fd : FuncData} (F : Fun K "value" "Meaning.value" s_Meaning_value f fd) (M : TxM K mg CM) (Dp : DefAt K mg "check_place" s_check_place ["tree", "thing"]) (Gp : FnOk P w K mg base CX0 4 Dp.f Dp.fd ["tree", "thing"] (spPlace C)) : FnOk P w K mg base CX0 5 f fd ["self", "box"] (spMValue C CM) := by
  refine F.ok sc_M_value (fun vs H Q E h => ?_) (fun cdv A outer s H vs Q E hr h => ?_)
  · obtain ⟨m, t, z, rs, d, ts, rfl, _⟩ := h
    rfl
  · obtain ⟨m, t, z, rs, d, ts, rfl, hm, hz, hq⟩ := h
    have hu := hu_of hr
    obtain ⟨dx, u, k, h1, h2, h3⟩ := hm.ex
    refine ⟨_, pss_cons (ps_expr (pe_call Gp hr rfl Dp.g Dp.F.kp Dp.b .nil pass0 (pa_cons (pe_fld (pv 0) rfl) (pa_cons (pv 1) pa_nil)))) (pss_one (ps_ret (pe_dget hu (pe_fld (pv 0) rfl) (pv 1) (fun _ _ => rfl)))), ?_⟩
    have dg := DGet.k (k := Sum.inr z) h3
    rw [valV_kvM hm.tree.val d ts (hz.elim .inl fun h => by
      by_cases e : z = ("top" : Str)
      · exact .inl e
      · exact .inr ⟨e, h⟩)] at dg
    exact ⟨_, rfl, m, CM, dx, _, _, rfl, h1, M.cl, M.nt, mf_t _ _ _ _, _, rfl, t, z, rs, rfl, hm.tree, hz, _, rfl, m, CM, dx, _, _, rfl, h1, M.cl, M.nk, mf_k _ _ _ _, _, rfl, k, _, rfl, dg, hq⟩
theorem sc_M_len : FnScope ["self"] ["self"] (defScope s_Meaning_len) := ⟨rfl, rfl, rfl, by decide +kernel, rfl, by decide +kernel, by decide +kernel⟩
theorem ok_M_len {f : Addr} {fd : FuncData} (F : Fun K "__len__" "Meaning.__len__" s_Meaning_len f fd) (B : TxB mg) (M : TxM K mg CM) : FnOk P w K mg base CX0 2 f fd ["self"] (spMLen C CM) := by
  refine F.ok sc_M_len (fun vs H Q E h => ?_) (fun cdv A outer s H vs Q E hr h => ?_)
  · obtain ⟨m, t, rs, d, ts, rfl, _⟩ := h
    rfl
  · obtain ⟨m, t, rs, d, ts, rfl, hm, hl, hq⟩ := h
    obtain ⟨dx, u, k, h1, h2, h3⟩ := hm.ex
    refine ⟨_, pss_one (ps_ret (pe_callB call_len_seq (by rfl) B.len PySem.boot_len (pa_cons (pe_fld (pv 0) rfl) pa_nil))), ?_⟩
    refine ⟨_, rfl, m, CM, dx, _, _, rfl, h1, M.cl, M.nu, mf_u _ _ _ _, u, _, rfl, .inr (sqT h2), ?_⟩
    rw [List.length_map]
    exact hq
end
end Ts

set_option maxRecDepth 100000
set_option maxHeartbeats 4000000
namespace Ts
open PySem L2
def spMStates (C CM : Addr) : Sp := fun vs H Q _ => ∃ (m t : Addr) (rs : List Row) (d : Bool) (ts : List Str), vs = [.ref m] ∧ MeanAt C CM H m t rs d ts ∧ ∀ D, H D = none → Q (.ref D) (upd H D (.dK (kvM rs d ts rs)))
section
variable {P : Program} {w : World} {K : PySem.W.Frag} {mg : Str → Option Value} {base : Heap} {C CM : Addr}
theorem sc_M_states : FnScope ["self"] ["self"] (defScope s_Meaning_states) := ⟨rfl, rfl, rfl, by decide +kernel, rfl, by decide +kernel, by decide +kernel⟩
theorem ok_M_states {f : Addr} {fd : FuncData} (F : Fun K "states" "Meaning.states" s_Meaning_states f fd) (B : TxB mg) (M : TxM K mg CM) : FnOk P w K mg base CX0 2 f fd ["self"] (spMStates C CM) := by
  refine F.ok sc_M_states (fun vs H Q E h => ?_) (fun cdv A outer s H vs Q E hr h => ?_)
  · obtain ⟨m, t, rs, d, ts, rfl, _⟩ := h
    rfl
  · obtain ⟨m, t, rs, d, ts, rfl, hm, hq⟩ := h
    obtain ⟨dx, u, k, h1, h2, h3⟩ := hm.ex
    refine ⟨_, pss_one (ps_ret (pe_callTy (T := "dict") call_dictD (by rfl) B.dict (by decide +kernel) (pa_cons (pe_fld (pv 0) rfl) pa_nil))), ?_⟩
    exact ⟨_, rfl, m, CM, dx, _, _, rfl, h1, M.cl, M.nk, mf_k _ _ _ _, k, _, rfl, .inl h3, fun D hD => hq D hD⟩
abbrev nMPrice : List Str := ["self", "box"]
theorem sc_M_price : FnScope nMPrice ["self"] (defScope s_Meaning_price) := ⟨rfl, rfl, rfl, by decide +kernel, rfl, by decide +kernel, by decide +kernel⟩
theorem ok_M_price {f : Addr} {fd : FuncData} (F : Fun K "price" "Meaning.price" s_Meaning_price f fd) (hB : mg "sum" = none) (T : TxT K mg C) (M : TxM K mg CM)
    (mP : MethAt K C "price" "Tree.price" s_Tree_price ["self", "box"]) (GP : FnOk P w K mg base CX0 4 mP.f mP.fd ["self", "box"] (spGet C fun r => prV r.pr)) : FnOk P w K mg base CX0 5 f fd ["self"] (spMPrice C CM) := by
  refine F.ok sc_M_price (fun vs H Q E h => ?_) (fun cdv A outer s H vs Q E hr h => ?_)
  · obtain ⟨m, t, rs, d, ts, rfl, _⟩ := h
    rfl
  · obtain ⟨m, t, rs, d, ts, rfl, hm, hl, hfree, hq⟩ := h
    obtain ⟨dx, u, k, h1, h2, h3⟩ := hm.ex
    obtain ⟨tx, q, f, kk, p, qs, t1, _⟩ := id hm.tree.ex
    have noP : (tf q f kk p).lookup ("price" : Str) = none := tf_no _ _ _ _ (by decide +kernel) (by decide +kernel) (by decide +kernel) (by decide +kernel)
    refine ⟨_, pss_one (ps_ret (pe_callB (cr_sum rfl) (by rfl) hB (by decide +kernel) (pa_cons (pe_lc (own := [("box", 1)]) (g := gName 1) (tt := tYes) (te := tMeth C "price" (spGet C fun r => prV r.pr) [] E0 (tFld K (tVar 0) "tree") (tCons (tVar 1) tNil)) rfl sc_M_price.nd (pi_tup (pe_fld (pv 0) rfl)) (blkOk_by (N := nMPrice) (sc := defScope s_Meaning_price) (by decide +kernel))
        (fun _ _ _ _ _ => pg_name (i := 1) sc_M_price.nd rfl (Or.inl rfl)) (fun _ _ _ _ _ => pts_nil) (fun _ _ _ _ _ => by exact pe_meth (pe_fld (pv 0) rfl) T.cl mP.m GP hr mP.b .nil pass0 (pa_cons (pv 1) pa_nil))) pa_nil))), ?_⟩
    refine ⟨_, rfl, m, CM, dx, _, _, rfl, h1, M.cl, M.nu, mf_u _ _ _ _, u, rfl, ⟨_, sqT h2⟩, fun D hD => ?_⟩
    refine lc_tup (K := K) (a := u) (xs := ts.map V.str) (fun i H' => Same H H' ∧ H' D = some (.lst ((costOf rs (ts.take i)).map V.int))) ⟨Same.new hD, upd_same⟩ (fun i H' _ m => sqT (m.1 _ _ h2)) ?_ ?_
    · rintro i x H2 hx ⟨s2, hD2⟩
      rw [List.getElem?_map] at hx
      obtain ⟨z, hz, rfl⟩ := Option.map_eq_some_iff.mp hx
      obtain ⟨r, hr', hp⟩ := hfree z (List.mem_of_getElem? hz)
      obtain ⟨c, hc⟩ : ∃ c, r.pr = some c := Option.ne_none_iff_exists'.mp hp
      refine ⟨rfl, tYes_if ⟨_, rfl, m, CM, dx, _, _, rfl, s2 _ _ h1, M.cl, M.nt, mf_t _ _ _ _, t, tx, _, rfl, s2 _ _ t1, noP, _, rfl, t, z, rs, r, rfl, hm.tree.same s2, hr', _, hD2, small1000 (by unfold costOf; rw [List.length_map, List.length_map, List.length_take]; omega), fun b o eb => ?_, ?_⟩⟩
      · rw [upd_ne (fun y => by rw [y, hD] at eb; cases eb)]
        exact s2 _ _ eb
      · have e : prV r.pr = .int c := by rw [hc]; rfl
        rw [upd_same, take_more hz]
        unfold costOf
        rw [List.map_append, List.map_append]
        show some (HO.lst (_ ++ [prV r.pr])) = some (HO.lst (_ ++ [V.int (((rowOf rs z).bind (·.pr)).getD 0)]))
        rw [e, hr']
        show _ = some (HO.lst (_ ++ [V.int (r.pr.getD 0)]))
        rw [hc]; rfl
    · rintro H2 ⟨s2, hD2⟩
      rw [List.length_map, List.take_length] at hD2
      exact ⟨D, _, rfl, SqL.of hD2, hq H2 s2⟩
end
end Ts

set_option maxRecDepth 100000
set_option maxHeartbeats 4000000
namespace Ts
open PySem L2
/-! ### lists of texts as data -/
theorem strs_dpAll {K : PySem.W.Frag} {H : Hp} : ∀ l : List Str, DpAll K H (l.map V.str) (l.map PyData.str)
  | [] => .nil
  | x :: l => .cons (.str x) (strs_dpAll l)
theorem strs_dp {K : PySem.W.Frag} {H : Hp} {a : Addr} {l : List Str} (h : H a = some (.lst (l.map V.str))) : Dp K H (.ref a) (.list (l.map PyData.str)) := .lst (SqL.of h) (strs_dpAll l)
theorem strs_eqv : ∀ a b : List Str, PyData.eqvAll (a.map PyData.str) (b.map PyData.str) = decide (a = b)
  | [], [] => by simp [PyData.eqvAll]
  | [], _ :: _ => by simp [PyData.eqvAll]
  | _ :: _, [] => by simp [PyData.eqvAll]
  | x :: a, y :: b => by
    simp only [List.map_cons, PyData.eqvAll, PyData.eqv, str_beq, strs_eqv a b]
    by_cases h1 : x = y <;> by_cases h2 : a = b <;> simp [h1, h2]
theorem strs_same (l : List Str) : PyData.eqv (.list (l.map PyData.str)) (.list (l.map PyData.str)) = true := by
  simp only [PyData.eqv]
  rw [strs_eqv]
  exact decide_eq_true rfl
theorem strs_lay : ∀ l : List Str, (∀ x ∈ l, PyData.strOk x = true) → PyData.canLayAll0 (l.map PyData.str) = true
  | [], _ => by simp [PyData.canLayAll0]
  | x :: l, h => by
    simp only [List.map_cons, PyData.canLayAll0, PyData.canLay0, h x (List.mem_cons_self ..), strs_lay l (fun q hq => h q (List.mem_cons_of_mem _ hq)), Bool.and_self]
theorem strs_depth : ∀ l : List Str, PyData.depthAll (l.map PyData.str) = 0
  | [] => by simp [PyData.depthAll]
  | x :: l => by simp only [List.map_cons, PyData.depthAll, PyData.depth, strs_depth l]; rfl
theorem shaped_strs {l : List Str} (h : ∀ x ∈ l, PyData.strOk x = true) : SeqAt.shaped (.list (l.map PyData.str)) = true := by
  unfold SeqAt.shaped
  rw [Bool.and_eq_true]
  refine ⟨by simp only [PyData.canLay0]; exact strs_lay l h, decide_eq_true ?_⟩
  simp only [PyData.depth, strs_depth]
  omega
theorem names_ok {rs : List Row} (h : Valid rs) : ∀ x ∈ names rs, PyData.strOk x = true := fun x hx => by
  obtain ⟨r, hr, rfl⟩ := List.mem_map.mp hx
  exact (h.ok r hr).n
theorem inside_ok {rs : List Row} (h : Valid rs) (z : Str) : ∀ x ∈ insideL rs z, PyData.strOk x = true := fun x hx => by
  obtain ⟨r, hr, rfl⟩ := List.mem_map.mp hx
  exact (h.ok r (List.mem_filter.mp hr).1).n
theorem below_ok {rs : List Row} (h : Valid rs) (z : Str) : ∀ x ∈ belowL rs z, PyData.strOk x = true := fun x hx => by
  obtain ⟨r, hr, rfl⟩ := List.mem_map.mp hx
  exact (h.ok r (List.mem_filter.mp hr).1).n
theorem lst_same {rs : List Row} : PyData.eqv (.list (rs.map rowD)) (.list (rs.map rowD)) = true := by
  simp only [PyData.eqv]
  rw [rows_eqv]
  exact decide_eq_true rfl
def told (r : Row) : PyData := .tuple [.str r.fo, .str r.ki, prD r.pr]
theorem told_same (r : Row) : PyData.eqv (told r) (told r) = true := by
  simp [told, PyData.eqv, PyData.eqvAll, prD_eqv]
theorem told_shaped {r : Row} (h : RowOk r) : SeqAt.shaped (told r) = true := by
  obtain ⟨h1, h2, h3⟩ := h
  obtain ⟨n, f, k, p⟩ := r
  unfold SeqAt.shaped
  cases p <;> simp_all [told, prD, PyData.canLay0, PyData.canLayAll0, PyData.depth, PyData.depthAll]
end Ts

set_option maxRecDepth 100000
set_option maxHeartbeats 4000000
namespace Ts
open PySem L2
theorem shaped_strsT {l : List Str} (h : ∀ x ∈ l, PyData.strOk x = true) : SeqAt.shaped (.tuple (l.map PyData.str)) = true := by
  unfold SeqAt.shaped
  rw [Bool.and_eq_true]
  refine ⟨by simp only [PyData.canLay0]; exact strs_lay l h, decide_eq_true ?_⟩
  simp only [PyData.depth, strs_depth]
  omega
theorem nfM {K : PySem.W.Frag} {C : Addr} : PySem.W.notFirst K C (.ref C) = true := by simp [PySem.W.notFirst]
theorem MeanAt.ok {C CM : Addr} {H : Hp} {m t : Addr} {rs : List Row} {d : Bool} {ts : List Str} (h : MeanAt C CM H m t rs d ts) : ∀ x ∈ ts, PyData.strOk x = true := fun x hx => names_ok h.tree.val x (h.sub x hx)
def spMEq (K : PySem.W.Frag) (C CM : Addr) : Sp := fun vs H Q _ => ∃ (m t : Addr) (x : V) (rs : List Row) (d : Bool) (ts : List Str), vs = [.ref m, x] ∧ MeanAt C CM H m t rs d ts ∧
  ((∃ (m2 t2 : Addr) (rs2 : List Row) (d2 : Bool) (ts2 : List Str), x = .ref m2 ∧ MeanAt C CM H m2 t2 rs2 d2 ts2 ∧ Q (.bl (decide (rs = rs2) && (decide (d = d2) && decide (ts = ts2)))) H) ∨ (Other K H x (.ref CM) ∧ Q (.bl false) H))
def spMContains (K : PySem.W.Frag) (C CM : Addr) : Sp := fun vs H Q _ => ∃ (m t : Addr) (x : V) (rs : List Row) (d : Bool) (ts : List Str), vs = [.ref m, x] ∧ MeanAt C CM H m t rs d ts ∧
  ((∃ z : Str, x = .str z ∧ Q (.bl (decide (z = ("top" : Str) ∨ z ∈ names rs) && valOf rs d ts z)) H) ∨ (Other K H x (.type "str") ∧ Q (.bl false) H))
section
variable {P : Program} {w : World} {K : PySem.W.Frag} {mg : Str → Option Value} {base : Heap} {C CM : Addr}
theorem sc_M_eq : FnScope ["self", "other"] ["self", "other"] (defScope s_Meaning_eq) := ⟨rfl, rfl, rfl, by decide +kernel, rfl, by decide +kernel, by decide +kernel⟩
theorem ok_M_eq {f : Addr} {fd : FuncData} (F : Fun K "__eq__" "Meaning.__eq__" s_Meaning_eq f fd) (B : TxB mg) (M : TxM K mg CM) (I : C8.InsC K CM)
    (mE : MethAt K C "__eq__" "Tree.__eq__" s_Tree_eq ["self", "other"]) (GE : FnOk P w K mg base CX0 2 mE.f mE.fd ["self", "other"] (spEqT K C)) : FnOk P w K mg base CX0 3 f fd ["self", "other"] (spMEq K C CM) := by
  refine F.ok sc_M_eq (fun vs H Q E h => ?_) (fun cdv A outer s H vs Q E hr h => ?_)
  · obtain ⟨m, t, x, rs, d, ts, rfl, _⟩ := h
    rfl
  · obtain ⟨m, t, x, rs, d, ts, rfl, hm, h⟩ := h
    obtain ⟨dx, u, k, h1, h2, h3⟩ := hm.ex
    refine ⟨_, pss_one (ps_ret (pe_and (pe_callB call_isi (by rfl) B.isinstance (by decide +kernel) (pa_cons (pv 1) (pa_cons (pe_glob (by rfl) M.g (v := .ref CM) rfl) pa_nil)))
      (pe_and (pe_cmpR (op_eqC GE mE.m hr mE.b pass0) (pe_fld (pv 0) rfl) (pe_fld (pv 1) rfl) (nomark _))
      (pe_and (pe_cmpR op_eq (pe_fld (pv 0) rfl) (pe_fld (pv 1) rfl) (nomark _))
      (pe_one (pe_cmpR (op_eqD (by have := hr.units; exact this)) (pe_fld (pv 0) rfl) (pe_fld (pv 1) rfl) (nomark _))))))), ?_⟩
    rcases h with ⟨m2, t2, rs2, d2, ts2, rfl, hm2, hq⟩ | ⟨⟨ty, hty, hk⟩, hq⟩
    · obtain ⟨dx', u', k', g1, g2, g3⟩ := hm2.ex
      obtain ⟨tx, _, _, _, _, _, t1, _⟩ := id hm.tree.ex
      obtain ⟨tx2, _, _, _, _, _, t3, _⟩ := id hm2.tree.ex
      refine ⟨_, rfl, _, _, _, _, true, rfl, .own CM, .base (.ins g1 I.cl I.ha I.hn I.htk I.hm), I.me, _, rfl, iteT ?_⟩
      refine ⟨_, rfl, m, CM, dx, _, _, rfl, h1, M.cl, M.nt, mf_t _ _ _ _, _, rfl, m2, CM, dx', _, _, rfl, g1, M.cl, M.nt, mf_t _ _ _ _, t, tx, _, .ref C, rfl, t1, .ins t3, nfM, t, .ref t2, rs, rfl, hm.tree, .inl ⟨t2, rs2, rfl, hm2.tree, ?_⟩⟩
      refine ⟨_, rfl, _, rfl, ?_⟩
      refine ite2 (fun hc => ?_) (fun hc => ?_)
      · have e1 : decide (rs = rs2) = true := hc
        rw [e1, Bool.true_and] at hq
        refine ⟨_, rfl, m, CM, dx, _, _, rfl, h1, M.cl, M.nd, mf_d _ _ _ _, _, rfl, m2, CM, dx', _, _, rfl, g1, M.cl, M.nd, mf_d _ _ _ _, rfl, _, rfl, ?_⟩
        have e2 : decide (V.bl d = V.bl d2) = decide (d = d2) := by cases d <;> cases d2 <;> rfl
        rw [e2]
        refine ite2 (fun hd => ?_) (fun hd => ?_)
        · rw [hd, Bool.true_and] at hq
          refine ⟨_, rfl, m, CM, dx, _, _, rfl, h1, M.cl, M.nu, mf_u _ _ _ _, _, rfl, m2, CM, dx', _, _, rfl, g1, M.cl, M.nu, mf_u _ _ _ _, _, _, .tup (sqT h2) (strs_dpAll ts), .tup (sqT g2) (strs_dpAll ts2), shaped_strsT hm.ok, shaped_strsT hm2.ok, ?_⟩
          have e3 : PyData.eqv (.tuple (ts.map PyData.str)) (.tuple (ts2.map PyData.str)) = decide (ts = ts2) := by
            simp only [PyData.eqv]
            exact strs_eqv ts ts2
          rw [e3]
          exact hq
        · have e3 : decide (d = d2) = false := by simpa using hd
          rw [e3, Bool.false_and] at hq
          exact hq
      · have e1 : decide (rs = rs2) = false := by simpa using hc
        rw [e1, Bool.false_and] at hq
        exact hq
    · exact ⟨_, rfl, _, _, _, _, false, rfl, .own CM, hty, hk, _, rfl, iteF hq⟩
theorem sc_M_contains : FnScope ["self", "x"] ["self", "x"] (defScope s_Meaning_contains) := ⟨rfl, rfl, rfl, by decide +kernel, rfl, by decide +kernel, by decide +kernel⟩
theorem ok_M_contains {f : Addr} {fd : FuncData} (F : Fun K "__contains__" "Meaning.__contains__" s_Meaning_contains f fd) (B : TxB mg) (M : TxM K mg CM) : FnOk P w K mg base CX0 2 f fd ["self", "x"] (spMContains K C CM) := by
  refine F.ok sc_M_contains (fun vs H Q E h => ?_) (fun cdv A outer s H vs Q E hr h => ?_)
  · obtain ⟨m, t, x, rs, d, ts, rfl, _⟩ := h
    rfl
  · obtain ⟨m, t, x, rs, d, ts, rfl, hm, h⟩ := h
    have hu := hu_of hr
    obtain ⟨dx, u, k, h1, h2, h3⟩ := hm.ex
    refine ⟨_, pss_one (ps_ret (pe_and (pe_callB call_isi (by rfl) B.isinstance (by decide +kernel) (pa_cons (pv 1) (pa_cons (pe_bltn (by rfl) B.str (by decide +kernel) (v := .ty "str") rfl) pa_nil))) (pe_one (pe_dget2 hu (pe_fld (pv 0) rfl) (pv 1) pe_bl (by constructor <;> intros <;> rfl))))), ?_⟩
    rcases h with ⟨z, rfl, hq⟩ | ⟨⟨ty, hty, hk⟩, hq⟩
    · refine ⟨_, rfl, _, _, _, _, true, rfl, .ty "str", .base (.str z), kit_ty (by decide +kernel), _, rfl, iteT ?_⟩
      have dg := DGet.k (k := Sum.inr z) h3
      refine ⟨_, rfl, m, CM, dx, _, _, rfl, h1, M.cl, M.nk, mf_k _ _ _ _, k, rfl, .inl ⟨_, .inl h3⟩, _, rfl, _, dg, ?_⟩
      by_cases e : z = ("top" : Str) ∨ z ∈ names rs
      · rw [valV_kvM hm.tree.val d ts (by
          by_cases e1 : z = ("top" : Str)
          · exact .inl e1
          · exact .inr ⟨e1, e.resolve_left e1⟩)]
        rw [decide_eq_true e, Bool.true_and] at hq
        exact hq
      · have en : valV (kvM rs d ts rs) (.inr z : Key) = none := by
          show valV ((.inr ("top" : Str), .bl d) :: kvF (fun r => .bl (valOf rs d ts r.nm)) rs) (.inr z : Key) = none
          rw [valV_neg (fun q => e (.inl (Sum.inr.inj q).symm)), valV_kvF, find_none (fun h => e (.inr h))]; rfl
        rw [en]
        rw [decide_eq_false e, Bool.false_and] at hq
        exact hq
    · exact ⟨_, rfl, _, _, _, _, false, rfl, .ty "str", hty, hk, _, rfl, iteF hq⟩
end
end Ts

set_option maxRecDepth 100000
set_option maxHeartbeats 4000000
namespace Ts
open PySem L2
/-! ### iter(tuple), and a walk over an object whose `__iter__` hands it on -/
/-- at it an iterator over the tuple at l, at its start -/
def ItT (l it : Addr) : HO := .ext fun h => h.IsTupleIter it l 0
theorem itT_ok {P : Program} {w : World} {H : Hp} {h : Heap} {l it : Addr} (e : h.IsTupleIter it l 0) : ObjOk P w H h it (ItT l it) := by
  obtain ⟨o, ho, hc, hd⟩ := id e
  exact ⟨e, ⟨o, ho⟩, fun g1 g2 q kk => by obtain ⟨o2, ho2, r2⟩ := q; exact ⟨o2, kk _ ho2, r2⟩⟩
def rIterT (K : PySem.W.Frag) (n : Nat) : List V → Hp → VK → Prop := fun xs H Q => ∃ (l : Addr) (zs : List V), xs = [.ref l] ∧ SqT K H l zs ∧ ∀ it, H it = Option.none → n ≤ it → Q (.ref it) (upd H it (ItT l it))
section
variable {X : Cx}
theorem call_iterT : CallR X (.builtin "iter") (rIterT X.K X.s_0.heap.objs.size) := by
  intro pins s σ H xs us Q I r hh
  obtain ⟨l, zs, rfl, hsq, hQ⟩ := hh
  obtain ⟨u, rfl, ru⟩ := vals1 r
  cases ru
  obtain ⟨its, rv, pl, hz⟩ := I.tuple hsq
  have ht : s.heap.IsTuple l its.toArray := pl
  refine Calls.call_function_entry (by decide +kernel) (by decide +kernel) PySem.W.kdk_entry_iter (PySem.W.kdk_args_iter _) ?_; unfold Builtin.«iter»
  refine wpAny_bind (m := someArgs "iter" 1 2 _) (wpAny_of_eq (a := [Value.ref l]) (by first | rfl | kernel_rfl!) ?_); show wpAny _ _ (pyIter (.ref l) >>= _) _ _ _
  refine wpAny_bind (wpAny_pyIter_tuple ht (wpAny_pure ⟨_, rfl, ?_⟩))
  exact ⟨.ref s.heap.objs.size, _, I.laid (t' := s.toks) (fun b u e => Heap.get?_push_of_some _ e) (Nat.le_refl _) (itT_ok ⟨_, Heap.get?_push_size _ rfl, rfl, rfl⟩), rfl, hQ _ (I.hok.fresh (Nat.le_refl _)) I.sz⟩
end
/-- a def that may say how young its answer is: sp knows the size of the memory at the call -/
def FnY (P : Program) (w : World) (K : PySem.W.Frag) (mg : Str → Option Value) (base : Heap) (CX : CXT) (k : Nat) (f : Addr) (ps : List Str) (sp : Nat → Sp) : Prop :=
  (∀ n vs H Q E, sp n vs H Q E → vs.length = ps.length) ∧ ∀ (A : Around) (outer : List Env) (s : Shared) (H : Hp) (us : List Value) (vs : List V) (Q : VK) (E : XK), Room k A → Env0 P w K mg base A outer s H → Vals vs us → sp s.heap.objs.size vs H Q E →
    codeAny (model P w) A (.call (.ref f) ⟨us, []⟩) (CR CX outer P w H s Q E) s
theorem fn_young {CX : CXT} {P : Program} {w : World} {K : PySem.W.Frag} {mg : Str → Option Value} {base : Heap} {k : Nat} {f : Addr} {fd : FuncData} {x qual : Str} {st : Stmt} {N ps : List Str} {sp : Nat → Sp} (F : Fun K x qual st f fd) (S : FnScope N ps (defScope st)) (bd : Binds K fd ps [])
    (len : ∀ n vs H Q E, sp n vs H Q E → vs.length = ps.length)
    (body : ∀ (cdv : Value) (A : Around) (outer : List Env) (s : Shared) (H : Hp) (vs : List V) (Q : VK) (E : XK), Room k (A.deeper (PyProof.Rows.envOfC qual (defScope st) s.heap.objs.size f cdv)) → sp s.heap.objs.size vs H Q E →
      ∃ t, PSs (cxOf CX P w K mg base N qual (defScope st) f cdv A outer s H E) (defBody st) t ∧ t { nx := fun _ H' => Q .non H', rt := Q } (start N vs) H) : FnY P w K mg base CX (k + 1) f ps sp := by
  refine ⟨len, fun A outer s H us vs Q E rm en rv want => ?_⟩
  obtain ⟨oc, od, kV, doc, pm, an, cdv, ct, osl, rfl, look, code⟩ := F.ex
  have lv := len _ _ _ _ _ want
  have KI : K.In s.heap := en.mod.kin.keeps fun b o hb => (en.bs b o hb).1
  have nolim : s.heap.NoLimit := en.mod.nolimit.keeps fun b o hb => (en.bs b o hb).1
  have kinds : ∀ z ∈ ps.zip us, (defScope st).names.lookup z.1 = some .local ∨ ((defScope st).names.lookup z.1 = some .cell ∧ ((cellsFrom (s.heap.objs.size + 1) (defScope st).names []).lookup z.1).isSome = true) := fun ⟨n, v⟩ hz => by
    rcases S.par n (List.of_mem_zip hz).1 with z1 | z1
    · exact .inl z1
    · exact .inr ⟨z1, PySem.W.cellsFrom_some _ _ _ (.inl z1)⟩
  have bt := bd s us KI (by rw [List.append_nil, ← rv.length]; exact lv)
  rw [List.append_nil] at bt
  refine codeAny_call_function rm.depth (KI _ _ look) rfl S.co S.gen rfl (PySem.W.codeRec_of KI code) (bt _ _ _ _ ?_)
  refine wpAny_newFunctionEnv_cells S.kind kinds fun e2 he2 s1 y => ?_
  subst he2
  refine ⟨nolim.keeps y.toInCall.keep, codeAny_func ?_⟩
  obtain ⟨t, tm, tq⟩ := body cdv A outer s H vs Q E (rm.deeper _) want
  have J : Inv (cxOf CX P w K mg base N qual (defScope st) f cdv A outer s H E) [] (start N vs) H s1 := inv_start S rm.hd en lv rv y
  refine wpAny_mono (tm.run [] s1 (start N vs) H _ J tq) (fun fl s2 hs => ?_) fun e3 s2 hs => hs
  have close : ∀ {σ2 : St} {H2 : Hp} {v : V} {u : Value}, Inv (cxOf CX P w K mg base N qual (defScope st) f cdv A outer s H E) [] σ2 H2 s2 → RelV v u → Q v H2 → CE outer P w H s Q u s2 := fun {σ2 H2 v u} J2 r2 q2 => ⟨v, H2, J2.os, J2.bare, J2.base, J2.hok, r2, q2⟩
  cases fl with
  | ret u => obtain ⟨v, σ2, H2, J2, r2, q2⟩ := hs; exact close J2 r2 q2
  | next => obtain ⟨σ2, H2, J2, q2⟩ := hs; exact close (v := V.non) (u := Value.none) J2 rfl q2
  | brk => obtain ⟨_, _, _, q2⟩ := hs; exact False.elim q2
  | cont => obtain ⟨_, _, _, q2⟩ := hs; exact False.elim q2
/-- what such an `__iter__` promises: an iterator over a tuple -/
def spIterT (K : PySem.W.Frag) (C : Addr) (fld : Str) : Nat → Sp := fun n vs H Q _ => ∃ (a dx l : Addr) (fs : List (Str × V)) (zs : List V), vs = [.ref a] ∧ H a = some (.ins C dx fs) ∧ fs.lookup fld = some (.ref l) ∧ SqT K H l zs ∧ ∀ it, H it = Option.none → n ≤ it → Q (.ref it) (upd H it (ItT l it))
def iOwnT (K : PySem.W.Frag) (C : Addr) (fld : Str) (t : TE) : TI := fun σ H R => t σ H fun x H1 => ∃ (a dx l : Addr) (fs : List (Str × V)), x = .ref a ∧ H1 a = some (.ins C dx fs) ∧ fs.lookup fld = some (.ref l) ∧ (∃ zs, SqT K H1 l zs) ∧ R (Itt K l) H1
theorem itT_at {X : Cx} {pins : List (Addr × Obj)} {σ : L2.St} {H : Hp} {s : Shared} {l it : Addr} (I : Inv X pins σ H s) (e : H it = some (ItT l it)) : s.heap.IsTupleIter it l 0 := (I.hok it _ e).1
section
variable {X : Cx} {tg e : Expr} {t : TE} {C f : Addr} {fld : Str} {k : Nat} {ps : List Str}
theorem pi_ownT (he : PE X e t) (F : FnY X.prog X.w X.K X.mg X.base CX0 k f ps (spIterT X.K C fld)) (m : Meth X.K C "__iter__" f) (hr : Room k X.A) : PI X tg e (iOwnT X.K C fld t) := by
  refine ⟨fun pins s σ H R I h => ?_⟩
  refine thn (he.run pins s σ H _ I h) fun v s1 ⟨x, H1, I1, r1, a, dx, l, fs, ex, ha, hf, ⟨zs, hz⟩, q⟩ => ?_
  subst ex
  cases r1
  obtain ⟨mA, J, _⟩ := ins_get I1.hok ha
  obtain ⟨od, J, _⟩ := J.look
  obtain ⟨mm, hF⟩ := I1.fr
  refine PySem.W.owit_iter hF I1.ok.mod.kin J m.at_ m.fn ?_
  refine wpAny_call (codeAny_mono (F.2 X.A X.stack s1 H1 [.ref a] [.ref a] (fun v H2 => ∃ it, v = .ref it ∧ H1 it = Option.none ∧ s1.heap.objs.size ≤ it ∧ H2 = upd H1 it (ItT l it)) E0 hr I1.env0 (.cons (show RelV (.ref a) (.ref a) from rfl) .nil) ⟨a, dx, l, fs, zs, rfl, ha, hf, hz, fun it h0 hn => ⟨it, rfl, h0, hn, rfl⟩⟩) fun r s' hq => ?_)
  cases r with
  | error e => exact hq.elim
  | ok fl =>
    cases fl with
    | next => exact hq.elim
    | brk => exact hq.elim
    | cont => exact hq.elim
    | ret u =>
      obtain ⟨v2, H2, I2, r2, it, ev, h0, hn, eH⟩ := I1.after hq
      subst ev
      subst eH
      cases r2
      have ti := itT_at I2 upd_same
      have I3 : Inv X pins σ (ItX.dropH (upd H1 it (ItT l it)) it) s' := ItX.inv_drop I2 (φ := fun h => h.IsTupleIter it l 0) upd_same
      have fp := ItX.inv_fp I2 upd_same (Nat.le_trans I1.sz hn)
      rw [ItX.dropH_upd h0] at I3 fp
      have fin : PIE X pins σ tg R (.ref it) s' := ⟨it, [it], _, _, H1, rfl, I3, turn_tuple l it, ti, fun b hb => by
        have eb : b = it := by simpa using hb
        rw [eb]; exact fp, q⟩
      exact wpAny_specialOf (name := "__next__") ti.typeIs PySem.F.slot_tuple_iterator_next.lookup fin
end
end Ts

set_option maxRecDepth 100000
set_option maxHeartbeats 4000000
namespace Ts
open PySem L2
/-! ### what a newcomer is worth -/
theorem wayOf_last (rs : List Row) (q : Row) : wayOf (rs ++ [q]) q.nm = wayOf rs q.fo ++ [q.nm] := by
  unfold wayOf
  rw [List.reverse_append]
  show (if q.nm = q.nm then wayR rs.reverse q.fo ++ [q.nm] else wayR rs.reverse q.nm) = _
  rw [if_pos rfl]
theorem wayOf_skip (rs : List Row) (q : Row) {z : Str} (h : q.nm ≠ z) : wayOf (rs ++ [q]) z = wayOf rs z := by
  unfold wayOf
  rw [List.reverse_append]
  show (if q.nm = z then wayR rs.reverse q.fo ++ [z] else wayR rs.reverse z) = _
  rw [if_neg h]
theorem turned_congr {ts us : List Str} : ∀ (l : List Str) (d : Bool), (∀ x ∈ l, x ∈ ts ↔ x ∈ us) → turned d ts l = turned d us l
  | [], _, _ => rfl
  | x :: l, d, h => by
    show turned (if x ∈ ts then !d else d) ts l = turned (if x ∈ us then !d else d) us l
    have e : (if x ∈ ts then !d else d) = (if x ∈ us then !d else d) := by
      by_cases hx : x ∈ ts
      · rw [if_pos hx, if_pos ((h x (List.mem_cons_self ..)).mp hx)]
      · rw [if_neg hx, if_neg fun q => hx ((h x (List.mem_cons_self ..)).mpr q)]
    rw [e]
    exact turned_congr l _ fun y hy => h y (List.mem_cons_of_mem _ hy)
theorem valOf_congr {rs : List Row} {d : Bool} {ts us : List Str} {z : Str} (h : ∀ x ∈ names rs, x ∈ ts ↔ x ∈ us) : valOf rs d ts z = valOf rs d us z :=
  turned_congr _ _ fun x hx => h x (way_mem hx)
theorem mem_turnsL {rs : List Row} {xs : List Str} {x : Str} : x ∈ turnsL rs xs ↔ x ∈ names rs ∧ x ∈ xs := by
  unfold turnsL
  rw [List.mem_filter, decide_eq_true_eq]
theorem names_app (rs qs : List Row) : names (rs ++ qs) = names rs ++ names qs := List.map_append
theorem val_newc {rs : List Row} {q : Row} (d : Bool) {ts : List Str} (h : q.nm ∉ ts) : valOf (rs ++ [q]) d (turnsL (rs ++ [q]) ts) q.nm = valOf rs d ts q.fo := by
  unfold valOf
  rw [wayOf_last, turned_snoc, if_neg fun e => h (mem_turnsL.mp e).2]
  refine turned_congr _ _ fun x hx => ?_
  rw [mem_turnsL, names_app]
  exact ⟨fun e => e.2, fun e => ⟨List.mem_append.mpr (.inl (way_mem hx)), e⟩⟩
theorem filter_of_sub {l : List Str} : ∀ {s : List Str}, s.Sublist l → l.Nodup → l.filter (fun z => decide (z ∈ s)) = s := by
  intro s h
  induction h with
  | slnil => intro _; rfl
  | cons a h ih =>
    intro nd
    rw [List.nodup_cons] at nd
    rw [List.filter_cons_of_neg (by
      rw [decide_eq_true_eq]
      exact fun e => nd.1 (h.subset e))]
    exact ih nd.2
  | cons_cons a h ih =>
    rename_i l1 l2
    intro nd
    rw [List.nodup_cons] at nd
    rw [List.filter_cons_of_pos (by rw [decide_eq_true_eq]; exact List.mem_cons_self ..)]
    have e : l2.filter (fun z => decide (z ∈ a :: l1)) = l2.filter (fun z => decide (z ∈ l1)) := by
      refine List.filter_congr fun z hz => ?_
      have ne : z ≠ a := fun e => nd.1 (e ▸ hz)
      simp [ne]
    rw [e, ih nd.2]
theorem Valid.nodup {rs : List Row} (h : Valid rs) : (names rs).Nodup := by
  unfold names
  rw [List.nodup_iff_pairwise_ne, List.pairwise_iff_getElem]
  intro i j hi hj hij e
  rw [List.length_map] at hi hj
  rw [List.getElem_map, List.getElem_map] at e
  refine (h j rs[j] (List.getElem?_eq_getElem hj)).new (List.mem_map.mpr ⟨rs[i], ?_, e⟩)
  exact List.mem_take_iff_getElem.mpr ⟨i, by omega, rfl⟩
theorem turnsL_sub {rs : List Row} (h : Valid rs) {ts : List Str} (s : ts.Sublist (names rs)) : turnsL rs ts = ts := filter_of_sub s h.nodup
theorem turnsL_congr {rs : List Row} {xs ys : List Str} (h : ∀ x, x ∈ xs ↔ x ∈ ys) : turnsL rs xs = turnsL rs ys := by
  unfold turnsL
  refine List.filter_congr fun z _ => ?_
  rw [decide_eq_decide]
  exact h z
/-! ### a dict of values, as data -/
def kvD (b : Str × Bool) : PyData := .tuple [.str b.1, .bool b.2]
/-- the items of the values -/
def itemsM (rs : List Row) (d : Bool) (ts : List Str) : List (Str × Bool) := (("top" : Str), d) :: rs.map fun r => (r.nm, valOf rs d ts r.nm)
theorem kvM_items (rs : List Row) (d : Bool) (ts : List Str) : kvM rs d ts rs = (itemsM rs d ts).map fun q => ((.inr q.1 : Key), V.bl q.2) := by
  unfold kvM itemsM kvF
  rw [List.map_cons, List.map_map]
  rfl
theorem items_dp {K : PySem.W.Frag} {H : Hp} : ∀ {qs : List (Str × Bool)} {ts : List Addr}, Paired (fun (t : Addr) (q : Key × V) => H t = some (.tup [kV q.1, q.2])) ts (qs.map fun q => ((.inr q.1 : Key), V.bl q.2)) → DpAll K H (ts.map V.ref) (qs.map kvD)
  | [], [], _ => .nil
  | [], _ :: _, h => by cases h
  | _ :: _, [], h => by cases h
  | q :: qs, t :: ts, h => by
    cases h with
    | cons h1 h2 => exact .cons (.tup (sqT h1) (.cons (.str _) (.cons (.bl _) .nil))) (items_dp h2)
theorem items_lay : ∀ (qs : List (Str × Bool)), (∀ q ∈ qs, PyData.strOk q.1 = true) → PyData.canLayAll0 (qs.map kvD) = true
  | [], _ => by simp [PyData.canLayAll0]
  | q :: qs, h => by
    have h1 := h q (List.mem_cons_self ..)
    simp [List.map_cons, kvD, PyData.canLayAll0, PyData.canLay0, h1, items_lay qs (fun x hx => h x (List.mem_cons_of_mem _ hx))]
theorem items_depth : ∀ (qs : List (Str × Bool)), PyData.depthAll (qs.map kvD) ≤ 1
  | [] => by simp [PyData.depthAll]
  | q :: qs => by
    have ih := items_depth qs
    simp only [List.map_cons, kvD, PyData.depthAll, PyData.depth]
    omega
theorem shaped_items {qs : List (Str × Bool)} (h : ∀ q ∈ qs, PyData.strOk q.1 = true) : SeqAt.shaped (.list (qs.map kvD)) = true := by
  have q := items_depth qs
  unfold SeqAt.shaped
  rw [Bool.and_eq_true]
  refine ⟨by simp only [PyData.canLay0]; exact items_lay qs h, decide_eq_true ?_⟩
  simp only [PyData.depth]
  omega
theorem items_ok {rs : List Row} (h : Valid rs) (d : Bool) (ts : List Str) : ∀ q ∈ itemsM rs d ts, PyData.strOk q.1 = true := by
  intro q hq
  rcases List.mem_cons.mp hq with e | hq
  · rw [e]; exact top_ok
  · obtain ⟨r, hr, rfl⟩ := List.mem_map.mp hq
    exact names_ok h _ (List.mem_map.mpr ⟨r, hr, rfl⟩)
theorem items_same : ∀ (qs : List (Str × Bool)), PyData.eqvAll (qs.map kvD) (qs.map kvD) = true
  | [] => by simp [PyData.eqvAll]
  | q :: qs => by
    simp [List.map_cons, kvD, PyData.eqvAll, PyData.eqv, items_same qs]
section
variable {P : Program} {w : World} {K : PySem.W.Frag} {mg : Str → Option Value} {base : Heap} {C CM : Addr}
theorem sc_M_iter : FnScope ["self"] ["self"] (defScope s_Meaning_iter) := ⟨rfl, rfl, rfl, by decide +kernel, rfl, by decide +kernel, by decide +kernel⟩
theorem ok_M_iter {f : Addr} {fd : FuncData} (F : Fun K "__iter__" "Meaning.__iter__" s_Meaning_iter f fd) (bd : Binds K fd ["self"] []) (hI : mg "iter" = none) (M : TxM K mg CM) : FnY P w K mg base CX0 2 f ["self"] (spIterT K CM "turns") := by
  refine fn_young F sc_M_iter bd (fun n vs H Q E h => ?_) (fun cdv A outer s H vs Q E hr h => ?_)
  · obtain ⟨a, dx, l, fs, zs, rfl, _⟩ := h
    rfl
  · obtain ⟨a, dx, l, fs, zs, rfl, ha, hf, hz, q⟩ := h
    refine ⟨_, pss_one (ps_ret (pe_callB call_iterT (by rfl) hI (by decide +kernel) (pa_cons (pe_fld (pv 0) rfl) pa_nil))), ?_⟩
    exact ⟨_, rfl, a, CM, dx, fs, _, rfl, ha, M.cl, M.nu, hf, l, zs, rfl, hz, q⟩
end
end Ts

set_option maxRecDepth 100000
set_option maxHeartbeats 4000000
namespace Ts
open PySem L2
theorem mk_same {C : Addr} {H H' : Hp} {x dx : Addr} (nx : H x = none) (nd : H dx = none) (sb : SB x (upd (upd H dx (.own x)) x (.ins C dx [])) H') : Same H H' := fun b o e =>
  sb b o (ne_of_none e nx) (by rw [upd_ne (ne_of_none e nx), upd_ne (ne_of_none e nd)]; exact e)
theorem mk_same0 {C : Addr} {H : Hp} {x dx : Addr} (nx : H x = none) (nd : H dx = none) : Same H (upd (upd H dx (.own x)) x (.ins C dx [])) := fun b o e => by
  rw [upd_ne (ne_of_none e nx), upd_ne (ne_of_none e nd)]; exact e
theorem SeqRows.snoc {H : Hp} {as : List Addr} {rs : List Row} {a : Addr} {r : Row} (h : SeqRows H as rs) (ha : H a = some (.tup (rowVs r)) ∨ H a = some (.lst (rowVs r))) : SeqRows H (as ++ [a]) (rs ++ [r]) := by
  refine ⟨by simp [h.len], fun i b q hb hq => ?_⟩
  rcases Nat.lt_or_ge i as.length with hi | hi
  · rw [List.getElem?_append_left hi] at hb
    rw [List.getElem?_append_left (h.len ▸ hi)] at hq
    exact h.at_ i b q hb hq
  · rw [List.getElem?_append_right hi] at hb
    rw [List.getElem?_append_right (h.len ▸ hi)] at hq
    have e0 : i - as.length = 0 := by
      have := (List.getElem?_eq_some_iff.mp hb).1
      simp at this
      omega
    have e1 : i - rs.length = 0 := by rw [← h.len]; exact e0
    rw [e0] at hb
    rw [e1] at hq
    simp at hb hq
    subst hb; subst hq
    exact ha
theorem SeqRows.append {H : Hp} : ∀ {bs : List Addr} {qs : List Row} {as : List Addr} {rs : List Row}, SeqRows H as rs → SeqRows H bs qs → SeqRows H (as ++ bs) (rs ++ qs)
  | [], [], as, rs, h, _ => by simpa using h
  | [], _ :: _, _, _, _, h => by have := h.len; simp at this
  | _ :: _, [], _, _, _, h => by have := h.len; simp at this
  | b :: bs, q :: qs, as, rs, h, h2 => by
    have h3 : SeqRows H bs qs := ⟨by simpa using h2.len, fun i a r ha hr => h2.at_ (i + 1) a r (by simpa using ha) (by simpa using hr)⟩
    have := SeqRows.append (h.snoc (h2.at_ 0 b q rfl rfl)) h3
    simpa using this
theorem rows_at {as : List Addr} {rs : List Row} {H : Hp} (h : RowsAt H as rs) {i : Nat} {x : V} (hx : (as.map V.ref)[i]? = some x) : ∃ ra r, x = .ref ra ∧ as[i]? = some ra ∧ rs[i]? = some r ∧ H ra = some (.tup (rowVs r)) := by
  rw [List.getElem?_map] at hx
  obtain ⟨ra, hra, rfl⟩ := Option.map_eq_some_iff.mp hx
  obtain ⟨r, hr'⟩ : ∃ r, rs[i]? = some r := ⟨rs[i]'(by rw [← h.len]; exact (List.getElem?_eq_some_iff.mp hra).1), List.getElem?_eq_getElem _⟩
  exact ⟨ra, r, rfl, hra, hr', h.at_ i ra r hra hr'⟩
theorem filter_more {rs : List Row} {i : Nat} {r : Row} (h : rs[i]? = some r) (p : Row → Bool) : (rs.take (i + 1)).filter p = (rs.take i).filter p ++ (if p r = true then [r] else []) := by
  rw [take_more h, List.filter_append]
  by_cases e : p r = true
  · rw [if_pos e, List.filter_cons_of_pos e]; rfl
  · rw [if_neg e, List.filter_cons_of_neg e]; rfl
/-- a new list that keeps some of the rows: what stands between two turns -/
structure KeepI (H0 H : Hp) (D : Addr) (qs : List Row) : Prop where
  same : Same H0 H
  ex : ∃ as : List Addr, H D = some (.lst (as.map V.ref)) ∧ RowsAt H as qs
theorem KeepI.nil {H : Hp} {D : Addr} (h : H D = none) : KeepI H (upd H D (.lst [])) D [] := ⟨Same.new h, [], upd_same, RowsAt.nil⟩
theorem KeepI.grow {H0 H H' : Hp} {D ra : Addr} {qs : List Row} {r : Row} (h : KeepI H0 H D qs) (hD : H0 D = none) (s : Same H H') (hr : H' ra = some (.tup (rowVs r))) (hl : qs.length ≤ 900) :
    ∃ acc, H' D = some (.lst acc) ∧ acc.length < sizeLine ∧ KeepI H0 (upd H' D (.lst (acc ++ [V.ref ra]))) D (qs ++ [r]) := by
  obtain ⟨as, h1, h2⟩ := h.ex
  have hD' := s _ _ h1
  have kt : ∀ {b : Addr} {xs : List V}, H' b = some (.tup xs) → (upd H' D (.lst (as.map V.ref ++ [V.ref ra]))) b = some (.tup xs) := fun {b xs} e => by
    rw [upd_ne (fun y => by rw [y, hD'] at e; cases e)]; exact e
  refine ⟨as.map V.ref, hD', small1000 (by rw [List.length_map, h2.len]; omega), fun b o e => ?_, as ++ [ra], by rw [upd_same, List.map_append]; rfl, RowsAt.snoc ⟨h2.len, fun j b q hb hq => kt (s _ _ (h2.at_ j b q hb hq))⟩ (kt hr)⟩
  rw [upd_ne (fun y => by rw [y, hD] at e; cases e)]
  exact s _ _ (h.same _ _ e)
theorem KeepI.on {H0 H H' : Hp} {D : Addr} {qs : List Row} (h : KeepI H0 H D qs) (s : Same H H') : KeepI H0 H' D qs := by
  obtain ⟨as, h1, h2⟩ := h.ex
  exact ⟨h.same.trans s, as, s _ _ h1, h2.same s⟩
def spMore (C : Addr) : Sp := fun vs H Q _ => ∃ (t a : Addr) (rs : List Row) (r : Row), vs = [.ref t, .ref a] ∧ TreeAt C H t rs ∧ Seq H a (rowVs r) ∧ Fits rs r ∧ rs.length + 1 ≤ 100 ∧ ∀ x H', Same H H' → TreeAt C H' x (rs ++ [r]) → Q (.ref x) H'
def spLess (C : Addr) : Sp := fun vs H Q _ => ∃ (t : Addr) (z : Str) (rs : List Row), vs = [.ref t, .str z] ∧ TreeAt C H t rs ∧ z ∈ names rs ∧ ∀ x H', Same H H' → TreeAt C H' x (lessL rs z) → Q (.ref x) H'
def spMoved (C : Addr) : Sp := fun vs H Q _ => ∃ (t : Addr) (m : Row) (fo : Str) (rs : List Row), vs = [.ref t, .str m.nm, .str fo] ∧ TreeAt C H t rs ∧ m ∈ rs ∧ (fo = ("top" : Str) ∨ ∃ q ∈ rs, q.nm = fo ∧ q.ki = ("folder" : Str) ∧ under rs m.nm q = false) ∧ ∀ x H', Same H H' → TreeAt C H' x (movedL rs m fo) → Q (.ref x) H'
end Ts

set_option maxRecDepth 100000
set_option maxHeartbeats 4000000
namespace Ts
open PySem L2
/-! ### making trees and meanings, as a caller reads it -/
theorem mean_made {K : PySem.W.Frag} {C CM : Addr} {Q : VK} {H : Hp} {t h : Addr} {d : Bool} {xs : List Str} {rs : List Row} (ht : TreeAt C H t rs) (hx : SqX K H h (xs.map V.str)) (hf : ∀ x ∈ xs, Free rs x)
    (k : ∀ m H', Same H H' → MeanAt C CM H' m t rs d (turnsL rs xs) → Q (.ref m) H') :
    ∀ x dx, H x = none → H dx = none → dx ≠ x → spMeaningInit K C CM (.ref x :: ([.ref t, .bl d, .ref h] ++ [])) (upd (upd H dx (.own x)) x (.ins CM dx [])) (fun v H2 => v = .non ∧ Q (.ref x) H2) E0 :=
  fun x dx nx nd _ => ⟨x, dx, t, h, d, xs, rs, rfl, upd_same, ht.same (mk_same0 nx nd), hx.same (mk_same0 nx nd), hf, fun H' sb m => ⟨rfl, k x H' (mk_same nx nd sb) m⟩⟩
theorem mean_madeD {K : PySem.W.Frag} {C CM : Addr} {Q : VK} {H : Hp} {t h : Addr} {d : Bool} {rs : List Row} (ht : TreeAt C H t rs) (hx : SqT K H h []) 
    (k : ∀ m H', Same H H' → MeanAt C CM H' m t rs d [] → Q (.ref m) H') :
    ∀ x dx, H x = none → H dx = none → dx ≠ x → spMeaningInit K C CM (.ref x :: ([.ref t, .bl d] ++ [.ref h])) (upd (upd H dx (.own x)) x (.ins CM dx [])) (fun v H2 => v = .non ∧ Q (.ref x) H2) E0 :=
  fun x dx nx nd _ => ⟨x, dx, t, h, d, [], rs, rfl, upd_same, ht.same (mk_same0 nx nd), (show SqX K H h [] from .inr hx).same (mk_same0 nx nd), (fun x hx => by cases hx), fun H' sb m => ⟨rfl, k x H' (mk_same nx nd sb) (by
    have e : turnsL rs [] = [] := by unfold turnsL; simp
    rw [e] at m
    exact m)⟩⟩
theorem tree_made {C : Addr} {Q : VK} {H : Hp} {p : Addr} {as : List Addr} {rs : List Row} (hp : Seq H p (as.map V.ref)) (hr : SeqRows H as rs) (hl : rs.length ≤ 100) (hv : Valid rs)
    (k : ∀ t H', Same H H' → TreeAt C H' t rs → Q (.ref t) H') :
    ∀ x dx, H x = none → H dx = none → dx ≠ x → spTreeInit C (.ref x :: ([.ref p] ++ [])) (upd (upd H dx (.own x)) x (.ins C dx [])) (fun v H2 => v = .non ∧ Q (.ref x) H2) E0 :=
  fun x dx nx nd _ => ⟨x, dx, p, as, rs, rfl, upd_same, hp.same (mk_same0 nx nd), hr.same (mk_same0 nx nd), hl, hv, fun H' sb m => ⟨rfl, k x H' (mk_same nx nd sb) m⟩⟩
theorem newz_len : ("newz" : Str).length = 4 := by decide +kernel
theorem newz_low : Low ("newz" : Str) := by unfold Low; decide +kernel
theorem newz_fits {rs : List Row} (hn : ∀ r ∈ rs, r.nm.length ≠ 4) {fo : Str} (hfo : fo = ("top" : Str) ∨ fo ∈ folderNames rs) : Fits rs ⟨"newz", fo, "item", some 1⟩ := by
  refine ⟨⟨.inr newz_len, newz_low⟩, fun e => ?_, fun hm => ?_, hfo.imp id mem_folders, (show ("item" : Str) ∈ kinds3 by decide +kernel), (show (1 : Int) ≤ 1 by decide)⟩
  · have := congrArg Str.length e
    rw [show (Row.nm ⟨"newz", fo, "item", some 1⟩) = ("newz" : Str) from rfl, newz_len, top_len] at this
    exact absurd this (by decide)
  · obtain ⟨r, h1, h2⟩ := List.mem_map.mp hm
    exact hn r h1 (by rw [h2]; exact newz_len)
theorem newz_not {rs : List Row} (hn : ∀ r ∈ rs, r.nm.length ≠ 4) : ("newz" : Str) ∉ names rs := fun hm => by
  obtain ⟨r, h1, h2⟩ := List.mem_map.mp hm
  exact hn r h1 (by rw [h2]; exact newz_len)
theorem rowOf_app {rs qs : List Row} {z : Str} {r : Row} (h : rowOf rs z = some r) : rowOf (rs ++ qs) z = some r := by
  unfold rowOf at h ⊢
  rw [List.find?_append, h]; rfl
theorem Free.app {rs qs : List Row} {z : Str} (h : Free rs z) : Free (rs ++ qs) z := by
  obtain ⟨r, e, hp⟩ := h
  exact ⟨r, rowOf_app e, hp⟩
end Ts

set_option maxRecDepth 100000
set_option maxHeartbeats 4000000
namespace Ts
open PySem L2
/-! ### all but lists is kept -/
def KL (H H' : Hp) : Prop := ∀ b o, H b = some o → (∀ xs, o ≠ .lst xs) → H' b = some o
theorem KL.of {H H' : Hp} (s : Same H H') : KL H H' := fun b o e _ => s b o e
theorem KL.refl (H : Hp) : KL H H := fun _ _ e _ => e
theorem KL.trans {H H1 H2 : Hp} (x : KL H H1) (y : KL H1 H2) : KL H H2 := fun b o e n => y b o (x b o e n) n
theorem KL.upd {H : Hp} {l : Addr} {xs : List V} {o : HO} (h : H l = some (.lst xs)) : KL H (L2.upd H l o) := fun b o e n => by
  rw [upd_ne (fun q => by rw [q, h] at e; exact n _ (Option.some.inj e).symm)]
  exact e
theorem RowsAt.kl {H H' : Hp} {as : List Addr} {rs : List Row} (h : RowsAt H as rs) (s : KL H H') : RowsAt H' as rs := ⟨h.len, fun i a r ha hr => s _ _ (h.at_ i a r ha hr) (fun _ e => nomatch e)⟩
theorem TreeAt.kl {C : Addr} {H H' : Hp} {t : Addr} {rs : List Row} (h : TreeAt C H t rs) (s : KL H H') : TreeAt C H' t rs := by
  obtain ⟨dx, q, f, k, p, qs, h1, h2, h3, h4, h5, h6⟩ := h.ex
  exact ⟨⟨dx, q, f, k, p, qs, s _ _ h1 (fun _ e => nomatch e), s _ _ h2 (fun _ e => nomatch e), h3.kl s, s _ _ h4 (fun _ e => nomatch e), s _ _ h5 (fun _ e => nomatch e), s _ _ h6 (fun _ e => nomatch e)⟩, h.val, h.len⟩
theorem MeanAt.kl {C CM : Addr} {H H' : Hp} {m t : Addr} {rs : List Row} {d : Bool} {ts : List Str} (h : MeanAt C CM H m t rs d ts) (s : KL H H') : MeanAt C CM H' m t rs d ts := by
  obtain ⟨dx, u, k, h1, h2, h3⟩ := h.ex
  exact ⟨⟨dx, u, k, s _ _ h1 (fun _ e => nomatch e), s _ _ h2 (fun _ e => nomatch e), s _ _ h3 (fun _ e => nomatch e)⟩, h.tree.kl s, h.norm⟩
theorem any_falses : ∀ n : Nat, (List.replicate n false).any id = false
  | 0 => rfl
  | n + 1 => by rw [List.replicate_succ, List.any_cons, any_falses n]; rfl
theorem all_trues : ∀ n : Nat, (List.replicate n true).all id = true
  | 0 => rfl
  | n + 1 => by rw [List.replicate_succ, List.all_cons, all_trues n]; rfl
theorem KL.sb {H H' : Hp} {a : Addr} {n : Int} (st : Stm H a n) (s : SB a H H') : KL H H' := fun b o e no => s b o (fun q => by
  obtain ⟨x, y, z, ea, _⟩ := st
  rw [q, ea] at e
  exact no _ (Option.some.inj e).symm) e
theorem RowsL.sbk {H H' : Hp} {a p : Addr} {rs : List Row} {n : Int} (h : RowsL H p rs) (np : p ≠ a) (st : Stm H a n) (s : SB a H H') : RowsL H' p rs := by
  obtain ⟨as, h1, h2⟩ := h.ex
  exact ⟨as, s _ _ np h1, h2.kl (KL.sb st s)⟩
theorem RowsL.upd {H : Hp} {p l : Addr} {xs : List V} {o : HO} {rs : List Row} (h : RowsL H p rs) (np : p ≠ l) (e : H l = some (.lst xs)) : RowsL (L2.upd H l o) p rs := by
  obtain ⟨as, h1, h2⟩ := h.ex
  exact ⟨as, by rw [upd_ne np]; exact h1, h2.kl (KL.upd e)⟩
theorem smb {H H1 H2 : Hp} {a : Addr} (h : Same H H1) (ha : H a = none) (s : SB a H1 H2) : Same H H2 := fun b o e => s b o (ne_of_none e ha) (h b o e)
theorem smu {H H1 : Hp} {a : Addr} {o : HO} (h : Same H H1) (ha : H a = none) : Same H (L2.upd H1 a o) := fun b o e => by
  rw [upd_ne (ne_of_none e ha)]
  exact h b o e
theorem cut_str (ts : List Str) (lo hi : Option Int) : ∃ zs : List Str, cutV (ts.map V.str) lo hi = zs.map V.str ∧ (∀ z ∈ zs, z ∈ ts) ∧ zs.length ≤ ts.length := by
  refine ⟨(ts.drop (HT.sIx (ts.map V.str).length 0 lo)).take (HT.sIx (ts.map V.str).length (ts.map V.str).length hi - HT.sIx (ts.map V.str).length 0 lo), ?_, fun z hz => List.mem_of_mem_drop (List.mem_of_mem_take hz), ?_⟩
  · unfold cutV
    rw [← List.map_drop, ← List.map_take]
  · rw [List.length_take, List.length_drop]; omega
theorem prices_ok : ∀ q ∈ pricesL, PriceOk q := by
  intro q hq
  simp [pricesL] at hq
  rcases hq with rfl | rfl | rfl | rfl | rfl <;> simp [PriceOk]
theorem kinds_ok3 : ∀ k ∈ kindsL, k ∈ kinds3 := by decide +kernel
theorem paired_same {H H' : Hp} (s : Same H H') : ∀ {ts : List Addr} {qs : List (Key × V)}, Paired (fun (t : Addr) (q : Key × V) => H t = some (.tup [kV q.1, q.2])) ts qs → Paired (fun (t : Addr) (q : Key × V) => H' t = some (.tup [kV q.1, q.2])) ts qs
  | _, _, .nil => .nil
  | _, _, .cons h t => .cons (s _ _ h) (paired_same s t)
theorem iteF' {c : Bool} {A B : Prop} (h : c = false) (b : B) : if c = true then A else B := by rw [h]; exact b
theorem kvM_at {rs : List Row} {d : Bool} {ts : List Str} {j : Nat} {k : Key} {v : V} (h : (kvM rs d ts rs)[j]? = some (k, v)) : ∃ z : Str, k = .inr z ∧ (z = ("top" : Str) ∨ z ∈ names rs) := by
  have hm := List.mem_of_getElem? h
  unfold kvM at hm
  rcases List.mem_cons.mp hm with e | hm
  · exact ⟨"top", (Prod.mk.inj e).1, .inl rfl⟩
  · unfold kvF at hm
    obtain ⟨r, hr, e⟩ := List.mem_map.mp hm
    exact ⟨r.nm, (Prod.mk.inj e).1.symm, .inr (List.mem_map.mpr ⟨r, hr, rfl⟩)⟩
theorem valV_kvM' {rs : List Row} (h : Valid rs) (d : Bool) (ts : List Str) {z : Str} (hz : z = ("top" : Str) ∨ z ∈ names rs) : valV (kvM rs d ts rs) (.inr z : Key) = some (.bl (valOf rs d ts z)) :=
  valV_kvM h d ts (by
    by_cases e : z = ("top" : Str)
    · exact .inl e
    · exact .inr ⟨e, hz.resolve_left e⟩)
def spLaw (K : PySem.W.Frag) : Sp := fun vs H Q _ => ∃ (a : Addr) (ns : List Int), vs = [.ref a] ∧ SqL K H a (ns.map V.int) ∧ ns.length ≤ 63 ∧ ∀ H', Q (.bl true) H'
/-- how the class of trees stands to other sorts -/
structure TxN (K : PySem.W.Frag) (C : Addr) : Prop where
  ne : PySem.W.findIn K (.ref C) "__ne__" = some (some (.builtin "object.__ne__"))
  ob : PySem.W.subIn K (.ref C) (.type "object") = some true
theorem nfC {K : PySem.W.Frag} {C : Addr} : PySem.W.notFirst K C (.ref C) = true := by simp [PySem.W.notFirst]
end Ts

set_option maxRecDepth 100000
set_option maxHeartbeats 4000000
namespace Ts
open PySem L2
/-! ### two meanings of one tree -/
/-- the top and the boxes -/
def plc (rs : List Row) : List Str := ("top" : Str) :: names rs
theorem val_all {rs : List Row} (hv : Valid rs) {d d2 : Bool} {ts us : List Str} (h1 : turnsL rs ts = ts) (h2 : turnsL rs us = us) : (∀ z ∈ plc rs, valOf rs d ts z = valOf rs d2 us z) ↔ (d = d2 ∧ ts = us) := by
  constructor
  · intro h
    have hd : d = d2 := by
      have := h ("top" : Str) (List.mem_cons_self ..)
      rw [val_top hv, val_top hv] at this
      exact this
    refine ⟨hd, ?_⟩
    rw [← h1, ← h2]
    unfold turnsL
    refine List.filter_congr fun z hz => ?_
    obtain ⟨r, hr, rfl⟩ := List.mem_map.mp hz
    have e1 := h r.nm (List.mem_cons_of_mem _ hz)
    have e2 := h r.fo (by
      rcases hv.foAll hr with e | e
      · rw [e]; exact List.mem_cons_self ..
      · exact List.mem_cons_of_mem _ e)
    rw [val_step hv d ts hr, val_step hv d2 us hr, e2] at e1
    revert e1
    generalize valOf rs d2 us r.fo = b
    generalize decide (r.nm ∈ ts) = x
    generalize decide (r.nm ∈ us) = y
    cases b <;> cases x <;> cases y <;> simp
  · rintro ⟨rfl, rfl⟩ z _
    rfl
theorem val_norm {rs : List Row} (d : Bool) (us : List Str) (z : Str) : valOf rs d (turnsL rs us) z = valOf rs d us z :=
  valOf_congr fun x hx => by rw [mem_turnsL]; exact ⟨fun e => e.2, fun e => ⟨hx, e⟩⟩
def firstUn (rs : List Row) (d : Bool) (ts : List Str) (d2 : Bool) (us : List Str) : Option Str := (plc rs).find? fun z => decide (valOf rs d ts z ≠ valOf rs d2 us z)
def optS : Option Str → V
  | none => .non
  | some z => .str z
theorem find_at {α : Type} {p : α → Bool} : ∀ {l : List α} {i : Nat} {z : α}, (∀ x ∈ l.take i, p x = false) → l[i]? = some z → p z = true → l.find? p = some z
  | [], i, z, _, h, _ => by simp at h
  | x :: l, 0, z, _, h, hp => by
    have e : x = z := Option.some.inj h
    subst e
    rw [List.find?_cons_of_pos hp]
  | x :: l, i + 1, z, hx, h, hp => by
    have h0 := hx x (by rw [List.take_succ_cons]; exact List.mem_cons_self ..)
    rw [List.find?_cons_of_neg (by rw [h0]; exact Bool.false_ne_true)]
    exact find_at (fun y hy => hx y (by rw [List.take_succ_cons]; exact List.mem_cons_of_mem _ hy)) (by simpa using h) hp
theorem kvM_plc {rs : List Row} {d : Bool} {ts : List Str} {j : Nat} {k : Key} {v : V} (h : (kvM rs d ts rs)[j]? = some (k, v)) : ∃ z : Str, k = .inr z ∧ (plc rs)[j]? = some z := by
  have e : (kvM rs d ts rs).map Prod.fst = (plc rs).map Sum.inr := by
    unfold kvM plc names kvF
    rw [List.map_cons, List.map_cons, List.map_map, List.map_map]
    rfl
  have e2 : ((kvM rs d ts rs).map Prod.fst)[j]? = some k := by rw [List.getElem?_map, h]; rfl
  rw [e, List.getElem?_map] at e2
  obtain ⟨z, hz, e3⟩ := Option.map_eq_some_iff.mp e2
  exact ⟨z, e3.symm, hz⟩
theorem kvM_len (rs : List Row) (d : Bool) (ts : List Str) : (kvM rs d ts rs).length = (plc rs).length := by
  unfold kvM plc names kvF
  simp
theorem mem_plc {rs : List Row} {z : Str} : z ∈ plc rs ↔ z = ("top" : Str) ∨ z ∈ names rs := List.mem_cons
/-! ### two sorted lists of the same texts -/
theorem ltCps_irr : ∀ l : List Nat, PySem.Spec.ltCps l l = false
  | [] => rfl
  | a :: l => by simp [PySem.Spec.ltCps, ltCps_irr l]
theorem ltCps_total : ∀ (a b : List Nat), PySem.Spec.ltCps a b = false → PySem.Spec.ltCps b a = false → a = b
  | [], [], _, _ => rfl
  | [], _ :: _, h, _ => by simp [PySem.Spec.ltCps] at h
  | _ :: _, [], _, h => by simp [PySem.Spec.ltCps] at h
  | x :: a, y :: b, h1, h2 => by
    simp only [PySem.Spec.ltCps, Bool.or_eq_false_iff, decide_eq_false_iff_not, Bool.and_eq_false_iff, beq_eq_false_iff_ne] at h1 h2
    have e : x = y := by omega
    subst e
    rw [ltCps_total a b (h1.2.resolve_left (by simp)) (h2.2.resolve_left (by simp))]
theorem geCps_trans : ∀ (a b c : List Nat), PySem.Spec.ltCps b a = false → PySem.Spec.ltCps c b = false → PySem.Spec.ltCps c a = false
  | [], [], [], _, _ => rfl
  | [], _, _ :: _, _, _ => by simp [PySem.Spec.ltCps]
  | [], _ :: _, [], _, h => by simp [PySem.Spec.ltCps] at h
  | _ :: _, [], _, h, _ => by simp [PySem.Spec.ltCps] at h
  | _ :: _, _ :: _, [], _, h => by simp [PySem.Spec.ltCps] at h
  | x :: a, y :: b, z :: c, h1, h2 => by
    simp only [PySem.Spec.ltCps, Bool.or_eq_false_iff, decide_eq_false_iff_not, Bool.and_eq_false_iff, beq_eq_false_iff_ne] at h1 h2 ⊢
    refine ⟨by omega, ?_⟩
    by_cases e : z = x
    · right
      have e1 : y = x := by omega
      have e2 : z = y := by omega
      exact geCps_trans a b c (h1.2.resolve_left (by simp [e1])) (h2.2.resolve_left (by simp [e2]))
    · left; exact e
theorem pw_of_rising : ∀ (l : List Str) (p : Str), PyProof.Rows.risingS p l = true → (p :: l).Pairwise fun a b => PySem.Spec.ltCps b.cps.toList a.cps.toList = false
  | [], p, _ => by simp
  | x :: l, p, h => by
    have h' : (!PySem.Spec.ltCps x.cps.toList p.cps.toList && PyProof.Rows.risingS x l) = true := h
    rw [Bool.and_eq_true, Bool.not_eq_true'] at h'
    have ih := pw_of_rising l x h'.2
    rw [List.pairwise_cons]
    refine ⟨fun y hy => ?_, ih⟩
    rcases List.mem_cons.mp hy with rfl | hy
    · exact h'.1
    · exact geCps_trans _ _ _ h'.1 (List.rel_of_pairwise_cons ih hy)
theorem pw_of_sorted : ∀ {l : List Str}, PyProof.Rows.sortedS l = true → l.Pairwise fun a b => PySem.Spec.ltCps b.cps.toList a.cps.toList = false
  | [], _ => List.Pairwise.nil
  | x :: l, h => pw_of_rising l x h
theorem str_of_cps {a b : Str} (h : a.cps.toList = b.cps.toList) : a = b := by
  cases a; cases b
  simp only at h
  rw [Str.mk.injEq]
  exact Array.ext' h
theorem sorted_same {xs ys zs ws : List Str} (p1 : xs.Perm zs) (p2 : ys.Perm ws) (s1 : PyProof.Rows.sortedS xs = true) (s2 : PyProof.Rows.sortedS ys = true) : xs = ys ↔ zs.Perm ws := by
  constructor
  · rintro rfl
    exact p1.symm.trans p2
  · intro h
    refine List.Perm.eq_of_pairwise (le := fun a b => PySem.Spec.ltCps b.cps.toList a.cps.toList = false) (fun a b _ _ h1 h2 => str_of_cps (ltCps_total _ _ h2 h1)) (pw_of_sorted s1) (pw_of_sorted s2) ((p1.trans h).trans p2.symm)
/-! ### what newcomers show -/
def newL (rs : List Row) (d : Bool) (ts : List Str) : List Bool := ((("top" : Str) :: folderNames rs).flatMap fun fo => [valOf rs d ts fo, valOf rs d ts fo]) ++ rs.map fun r => valOf rs d ts r.nm
theorem newL_eq {rs : List Row} {d d2 : Bool} {ts us : List Str} : newL rs d ts = newL rs d2 us ↔ ∀ z ∈ plc rs, valOf rs d ts z = valOf rs d2 us z := by
  unfold newL
  constructor
  · intro h
    have hl : ((("top" : Str) :: folderNames rs).flatMap fun fo => [valOf rs d ts fo, valOf rs d ts fo]).length = ((("top" : Str) :: folderNames rs).flatMap fun fo => [valOf rs d2 us fo, valOf rs d2 us fo]).length := by
      simp only [List.length_flatMap]; rfl
    obtain ⟨h1, h2⟩ := List.append_inj h hl
    intro z hz
    rcases mem_plc.mp hz with rfl | hz
    · rw [List.flatMap_cons, List.flatMap_cons] at h1
      have := List.append_inj h1 rfl
      exact (List.cons.inj this.1).1
    · obtain ⟨r, hr, rfl⟩ := List.mem_map.mp hz
      exact List.map_inj_left.mp h2 r hr
  · intro h
    congr 1
    · rw [List.flatMap_def, List.flatMap_def]
      refine congrArg List.flatten (List.map_congr_left fun fo hfo => ?_)
      rw [h fo (by
        rcases List.mem_cons.mp hfo with rfl | hfo
        · exact List.mem_cons_self ..
        · obtain ⟨q, hq, rfl, _⟩ := mem_folders hfo
          exact List.mem_cons_of_mem _ (List.mem_map.mpr ⟨q, hq, rfl⟩))]
    · exact List.map_congr_left fun r hr => h r.nm (List.mem_cons_of_mem _ (List.mem_map.mpr ⟨r, hr, rfl⟩))
theorem bools_dp {K : PySem.W.Frag} {H : Hp} : ∀ l : List Bool, DpAll K H (l.map V.bl) (l.map PyData.bool)
  | [] => .nil
  | x :: l => .cons (.bl x) (bools_dp l)
theorem bools_eqv : ∀ a b : List Bool, PyData.eqvAll (a.map PyData.bool) (b.map PyData.bool) = decide (a = b)
  | [], [] => by simp [PyData.eqvAll]
  | [], _ :: _ => by simp [PyData.eqvAll]
  | _ :: _, [] => by simp [PyData.eqvAll]
  | x :: a, y :: b => by
    simp only [List.map_cons, PyData.eqvAll, PyData.eqv, bools_eqv a b]
    by_cases h : a = b <;> cases x <;> cases y <;> simp [h]
theorem bools_lay : ∀ l : List Bool, PyData.canLayAll0 (l.map PyData.bool) = true
  | [] => by simp [PyData.canLayAll0]
  | x :: l => by simp [PyData.canLayAll0, PyData.canLay0, bools_lay l]
theorem bools_depth : ∀ l : List Bool, PyData.depthAll (l.map PyData.bool) = 0
  | [] => by simp [PyData.depthAll]
  | x :: l => by simp [PyData.depthAll, PyData.depth, bools_depth l]
theorem shaped_bools (l : List Bool) : SeqAt.shaped (.list (l.map PyData.bool)) = true := by
  unfold SeqAt.shaped
  rw [Bool.and_eq_true]
  refine ⟨by simp only [PyData.canLay0]; exact bools_lay l, decide_eq_true ?_⟩
  simp only [PyData.depth, bools_depth]
  omega
end Ts

set_option maxRecDepth 100000
set_option maxHeartbeats 4000000
namespace Ts
open PySem L2
/-! ### own operators between two objects of one class -/
def rBinC (C : Addr) (sp : Sp) (E : XK) : R2 := fun x y H Q => ∃ (a b dx dy : Addr) (fs gs : List (Str × V)), x = .ref a ∧ y = .ref b ∧ H a = some (.ins C dx fs) ∧ H b = some (.ins C dy gs) ∧ sp [.ref a, .ref b] H (fun v H' => ∃ r : Addr, v = .ref r ∧ Q v H') E
def rInvC (C : Addr) (sp : Sp) (E : XK) : V → Hp → VK → Prop := fun x H Q => ∃ (a dx : Addr) (fs : List (Str × V)), x = .ref a ∧ H a = some (.ins C dx fs) ∧ sp [.ref a] H Q E
section
variable {X : Cx} {k : Nat} {C f : Addr} {fd : FuncData} {ps : List Str} {sp : Sp} {CX : CXT} {E : XK}
theorem op_binC {op : Operator} {nm : Str} (F : FnOk X.prog X.w X.K X.mg X.base CX k f fd ps sp) (m : Meth X.K C nm f) (hn : PySem.dunder op.info.2 = nm) (hc : PySem.W.selfFirst X.K C = true) (hr : Room k X.A) (hb : Binds X.K fd ps []) (hx : Passes CX X E) : OpR X (binaryOp op) (rBinC C sp E) := by
  intro pins s σ H x y v u Q I rx ry hq
  obtain ⟨a, b, dx, dy, fs, gs, rfl, rfl, ha, hb', hsp⟩ := hq
  cases rx
  cases ry
  obtain ⟨mA, J, _⟩ := ins_get I.hok ha
  obtain ⟨od, J, _⟩ := J.look
  obtain ⟨mm, hF⟩ := I.fr
  refine PySem.W.binop_K hF I.ok.mod.kin J (ty_looks I (show RelV (.ref b) (.ref b) from rfl) (.ins hb')) hc (by rw [hn]; exact m.at_) m.fn ?_
  refine wpAny_mono (run_at F hr rfl hb hx I (us := [.ref a, .ref b]) (.cons (show RelV (.ref a) (.ref a) from rfl) (.cons (show RelV (.ref b) (.ref b) from rfl) .nil)) hsp) (fun r s' hq => ?_) fun _ _ x => x
  obtain ⟨z, H', I', rz, q, rfl, hQ⟩ := hq
  cases rz
  exact ⟨.ref q, H', I', rfl, hQ⟩
theorem un_invC (F : FnOk X.prog X.w X.K X.mg X.base CX k f fd ps sp) (m : Meth X.K C "__invert__" f) (hr : Room k X.A) (hb : Binds X.K fd ps []) (hx : Passes CX X E) : UnR X (unaryOp .Invert) (rInvC C sp E) := by
  intro pins s σ H x v Q I rx hq
  obtain ⟨a, dx, fs, rfl, ha, hsp⟩ := hq
  cases rx
  obtain ⟨mA, J, _⟩ := ins_get I.hok ha
  obtain ⟨od, J, _⟩ := J.look
  obtain ⟨mm, hF⟩ := I.fr
  exact PySem.W.ksp_inv hF I.ok.mod.kin J m.at_ m.fn (run_at F hr rfl hb hx I (us := [.ref a]) (.cons (show RelV (.ref a) (.ref a) from rfl) .nil) hsp)
end
end Ts

set_option maxRecDepth 100000
set_option maxHeartbeats 4000000
namespace Ts
open PySem L2
/-! ### meanings by their values -/
/-- the turns that give these values -/
def turnsG (rs : List Row) (v : Str → Bool) : List Str := (rs.filter fun r => decide (v r.nm ≠ v r.fo)).map (·.nm)
theorem row_same {rs : List Row} (hv : Valid rs) {r q : Row} (hr : r ∈ rs) (hq : q ∈ rs) (e : r.nm = q.nm) : r = q := by
  obtain ⟨i, hi, e1⟩ := List.mem_iff_getElem.mp hr
  obtain ⟨j, hj, e2⟩ := List.mem_iff_getElem.mp hq
  have h1 := rowOf_at hv (i := i) (r := r) (by rw [← e1]; exact List.getElem?_eq_getElem hi)
  have h2 := rowOf_at hv (i := j) (r := q) (by rw [← e2]; exact List.getElem?_eq_getElem hj)
  rw [e, h2] at h1
  exact (Option.some.inj h1).symm
theorem mem_turnsG {rs : List Row} (hv : Valid rs) {v : Str → Bool} {r : Row} (hr : r ∈ rs) : r.nm ∈ turnsG rs v ↔ v r.nm ≠ v r.fo := by
  unfold turnsG
  constructor
  · intro h
    obtain ⟨q, hq, e⟩ := List.mem_map.mp h
    rw [List.mem_filter, decide_eq_true_eq] at hq
    rw [row_same hv hr hq.1 e.symm]
    exact hq.2
  · intro h
    exact List.mem_map.mpr ⟨r, List.mem_filter.mpr ⟨hr, decide_eq_true h⟩, rfl⟩
theorem turnsG_sub (rs : List Row) (v : Str → Bool) : (turnsG rs v).Sublist (names rs) := List.Sublist.map _ List.filter_sublist
theorem val_turnsG {rs : List Row} (hv : Valid rs) (v : Str → Bool) : ∀ z ∈ plc rs, valOf rs (v "top") (turnsG rs v) z = v z := by
  have key : ∀ n : Nat, ∀ i, i < n → ∀ r, rs[i]? = some r → valOf rs (v "top") (turnsG rs v) r.nm = v r.nm := by
    intro n
    induction n with
    | zero => intro i hi; omega
    | succ n ih =>
      intro i hi r hr
      have hrm := List.mem_of_getElem? hr
      have hfo : valOf rs (v "top") (turnsG rs v) r.fo = v r.fo := by
        rcases hv.fo hr with e | e
        · rw [e, val_top hv]
        · obtain ⟨q, hq, e2⟩ := List.mem_map.mp e
          obtain ⟨j, hj, e3⟩ := List.mem_take_iff_getElem.mp hq
          rw [← e2]
          exact ih j (by omega) q (by rw [← e3]; exact List.getElem?_eq_getElem _)
      rw [val_step hv _ _ hrm, hfo]
      have e : decide (r.nm ∈ turnsG rs v) = decide (v r.nm ≠ v r.fo) := decide_eq_decide.mpr (mem_turnsG hv hrm)
      rw [e]
      cases v r.fo <;> cases v r.nm <;> rfl
  intro z hz
  rcases mem_plc.mp hz with rfl | hz
  · exact val_top hv _ _
  · obtain ⟨r, hr, rfl⟩ := List.mem_map.mp hz
    obtain ⟨i, hi, e⟩ := List.mem_iff_getElem.mp hr
    exact key (i + 1) i (by omega) r (by rw [← e]; exact List.getElem?_eq_getElem hi)
theorem fo_plc {rs : List Row} (hv : Valid rs) {r : Row} (hr : r ∈ rs) : r.fo ∈ plc rs := mem_plc.mpr (hv.foAll hr)
theorem nm_plc {rs : List Row} {r : Row} (hr : r ∈ rs) : r.nm ∈ plc rs := mem_plc.mpr (.inr (List.mem_map.mpr ⟨r, hr, rfl⟩))
structure MV (C CM : Addr) (H : Hp) (m t : Addr) (rs : List Row) (v : Str → Bool) : Prop where
  ex : ∃ (d : Bool) (ts : List Str), MeanAt C CM H m t rs d ts ∧ ∀ z ∈ plc rs, valOf rs d ts z = v z
  lk : ∀ r ∈ rs, r.pr = none → v r.nm = v r.fo
theorem MV.same {C CM : Addr} {H H' : Hp} {m t : Addr} {rs : List Row} {v : Str → Bool} (h : MV C CM H m t rs v) (s : Same H H') : MV C CM H' m t rs v := by
  obtain ⟨d, ts, hm, hv⟩ := h.ex
  exact ⟨⟨d, ts, hm.same s, hv⟩, h.lk⟩
theorem MV.at_ {C CM : Addr} {H : Hp} {m t : Addr} {rs : List Row} {v : Str → Bool} (h : MV C CM H m t rs v) : ∃ dx fs, H m = some (.ins CM dx fs) := by
  obtain ⟨d, ts, hm, hv⟩ := h.ex
  obtain ⟨dx, u, k, h1, _⟩ := hm.ex
  exact ⟨dx, _, h1⟩
theorem turns_of {rs : List Row} (hv : Valid rs) {d : Bool} {ts : List Str} {v : Str → Bool} (hn : ts = turnsL rs ts) (h : ∀ z ∈ plc rs, valOf rs d ts z = v z) : d = v "top" ∧ ts = turnsG rs v := by
  have h1 : turnsL rs (turnsG rs v) = turnsG rs v := turnsL_sub hv (turnsG_sub rs v)
  refine (val_all hv (d := d) (d2 := v "top") hn.symm h1).mp fun z hz => ?_
  rw [h z hz, val_turnsG hv v z hz]
theorem MV.turns {C CM : Addr} {H : Hp} {m t : Addr} {rs : List Row} {v : Str → Bool} (h : MV C CM H m t rs v) : MeanAt C CM H m t rs (v "top") (turnsG rs v) := by
  obtain ⟨d, ts, hm, hv⟩ := h.ex
  obtain ⟨e1, e2⟩ := turns_of hm.tree.val hm.norm hv
  rw [← e1, ← e2]
  exact hm
theorem MV.free {C CM : Addr} {H : Hp} {m t : Addr} {rs : List Row} {v : Str → Bool} (h : MV C CM H m t rs v) : ∀ z ∈ turnsG rs v, Free rs z := fun z hz => by
  have hv := h.turns.tree.val
  obtain ⟨r, hr, rfl⟩ := List.mem_map.mp hz
  rw [List.mem_filter, decide_eq_true_eq] at hr
  obtain ⟨i, hi, e⟩ := List.mem_iff_getElem.mp hr.1
  exact ⟨r, rowOf_at hv (by rw [← e]; exact List.getElem?_eq_getElem hi), fun q => hr.2 (h.lk r hr.1 q)⟩
theorem MV.valid {C CM : Addr} {H : Hp} {m t : Addr} {rs : List Row} {v : Str → Bool} (h : MV C CM H m t rs v) : Valid rs := h.turns.tree.val
/-- from a meaning -/
theorem MV.of {C CM : Addr} {H : Hp} {m t : Addr} {rs : List Row} {d : Bool} {ts : List Str} (h : MeanAt C CM H m t rs d ts) (hf : ∀ z ∈ ts, Free rs z) : MV C CM H m t rs (valOf rs d ts) := by
  refine ⟨⟨d, ts, h, fun _ _ => rfl⟩, fun r hr q => ?_⟩
  rw [val_step h.tree.val d ts hr]
  have : r.nm ∉ ts := fun hm => by
    obtain ⟨r2, e, hp⟩ := hf _ hm
    obtain ⟨i, hi, e2⟩ := List.mem_iff_getElem.mp hr
    rw [rowOf_at h.tree.val (i := i) (r := r) (by rw [← e2]; exact List.getElem?_eq_getElem hi)] at e
    cases e
    exact hp q
  rw [decide_eq_false this]
  cases valOf rs d ts r.fo <;> rfl
/-- a dict of values -/
def kvG (rs : List Row) (v : Str → Bool) : List (Key × V) := (plc rs).map fun z => ((.inr z : Key), V.bl (v z))
theorem kvM_kvG {rs : List Row} (hv : Valid rs) {d : Bool} {ts : List Str} {v : Str → Bool} (h : ∀ z ∈ plc rs, valOf rs d ts z = v z) : kvM rs d ts rs = kvG rs v := by
  unfold kvM kvG plc names kvF
  rw [List.map_cons, List.map_map]
  congr 1
  · rw [← h _ (mem_plc.mpr (.inl rfl)), val_top hv]
  · refine List.map_congr_left fun r hr => ?_
    show (Sum.inr r.nm, V.bl (valOf rs d ts r.nm)) = (Sum.inr r.nm, V.bl (v r.nm))
    rw [h _ (nm_plc hr)]
theorem valV_list (v : Str → Bool) {z : Str} : ∀ {l : List Str}, z ∈ l → valV (l.map fun z => ((.inr z : Key), V.bl (v z))) (.inr z : Key) = some (.bl (v z))
  | x :: l, hz => by
    rw [List.map_cons]
    by_cases e : x = z
    · subst e; rw [valV_pos rfl]
    · rw [valV_neg (fun q => e (Sum.inr.inj q))]
      exact valV_list v ((List.mem_cons.mp hz).resolve_left fun q => e q.symm)
theorem valV_kvG {rs : List Row} (v : Str → Bool) {z : Str} (hz : z ∈ plc rs) : valV (kvG rs v) (.inr z : Key) = some (.bl (v z)) := valV_list v hz
theorem kvG_at {rs : List Row} {v : Str → Bool} {j : Nat} {k : Key} {x : V} (h : (kvG rs v)[j]? = some (k, x)) : ∃ z : Str, k = .inr z ∧ (plc rs)[j]? = some z := by
  unfold kvG at h
  rw [List.getElem?_map] at h
  obtain ⟨z, hz, e⟩ := Option.map_eq_some_iff.mp h
  exact ⟨z, (Prod.mk.inj e).1.symm, hz⟩
theorem kvG_len (rs : List Row) (v : Str → Bool) : (kvG rs v).length = (plc rs).length := by unfold kvG; rw [List.length_map]
theorem plc_nodup {rs : List Row} (hv : Valid rs) : (plc rs).Nodup := by
  unfold plc
  rw [List.nodup_cons]
  exact ⟨top_not hv, hv.nodup⟩
/-- the values of the first places, one more -/
theorem kvP_more {l : List Str} (nd : l.Nodup) (v : Str → Bool) {i : Nat} {z : Str} (h : l[i]? = some z) : putK ((l.take i).map fun z => ((.inr z : Key), V.bl (v z))) (.inr z) (.bl (v z)) = (l.take (i + 1)).map fun z => ((.inr z : Key), V.bl (v z)) := by
  have hn : z ∉ l.take i := fun hm => by
    obtain ⟨j, hj, e⟩ := List.mem_take_iff_getElem.mp hm
    obtain ⟨hi, e2⟩ := List.getElem?_eq_some_iff.mp h
    have := (List.getElem_inj nd).mp (e.trans e2.symm)
    omega
  have hv : valV ((l.take i).map fun z => ((.inr z : Key), V.bl (v z))) (.inr z : Key) = none := by
    generalize l.take i = m at hn
    induction m with
    | nil => rfl
    | cons x m ih =>
      rw [List.map_cons, valV_neg (fun q => hn (by rw [Sum.inr.inj q]; exact List.mem_cons_self ..))]
      exact ih fun q => hn (List.mem_cons_of_mem _ q)
  rw [putK_new _ hv, take_more h, List.map_append]
  rfl
def eqV (rs : List Row) (v w : Str → Bool) : Bool := (plc rs).all fun z => v z == w z
theorem eqV_true {rs : List Row} {v w : Str → Bool} (h : ∀ z, v z = w z) : eqV rs v w = true := by
  unfold eqV
  rw [List.all_eq_true]
  intro z _
  rw [h z]; simp
theorem eqV_iff {rs : List Row} {v w : Str → Bool} : eqV rs v w = true ↔ ∀ z ∈ plc rs, v z = w z := by
  unfold eqV
  rw [List.all_eq_true]
  exact ⟨fun h z hz => by simpa using h z hz, fun h z hz => by simpa using h z hz⟩
def spBin (C CM : Addr) (f : Bool → Bool → Bool) : Sp := fun vs H Q _ => ∃ (m m2 t t2 : Addr) (rs : List Row) (v w : Str → Bool), vs = [.ref m, .ref m2] ∧ MV C CM H m t rs v ∧ MV C CM H m2 t2 rs w ∧ ∀ m3 H', Same H H' → MV C CM H' m3 t rs (fun z => f (v z) (w z)) → Q (.ref m3) H'
def spInv (C CM : Addr) : Sp := fun vs H Q _ => ∃ (m t : Addr) (rs : List Row) (v : Str → Bool), vs = [.ref m] ∧ MV C CM H m t rs v ∧ ∀ m3 H', Same H H' → MV C CM H' m3 t rs (fun z => !(v z)) → Q (.ref m3) H'
def spWith (C CM : Addr) : Sp := fun vs H Q _ => ∃ (t vd : Addr) (rs : List Row) (v : Str → Bool), vs = [.ref t, .ref vd] ∧ TreeAt C H t rs ∧ H vd = some (.dK (kvG rs v)) ∧ (∀ r ∈ rs, r.pr = none → v r.nm = v r.fo) ∧ ∀ m H', Same H H' → MV C CM H' m t rs v → Q (.ref m) H'
theorem rd_bin {C CM : Addr} {H : Hp} {m m2 t t2 : Addr} {rs : List Row} {v w : Str → Bool} {f : Bool → Bool → Bool} {E : XK} {Q : VK} (h1 : MV C CM H m t rs v) (h2 : MV C CM H m2 t2 rs w) (k : ∀ m3 H', Same H H' → MV C CM H' m3 t rs (fun z => f (v z) (w z)) → Q (.ref m3) H') : rBinC CM (spBin C CM f) E (.ref m) (.ref m2) H Q := by
  obtain ⟨dx, fs, e1⟩ := h1.at_
  obtain ⟨dy, gs, e2⟩ := h2.at_
  exact ⟨m, m2, dx, dy, fs, gs, rfl, rfl, e1, e2, m, m2, t, t2, rs, v, w, rfl, h1, h2, fun m3 H' s mv => ⟨m3, rfl, k m3 H' s mv⟩⟩
theorem rd_inv {C CM : Addr} {H : Hp} {m t : Addr} {rs : List Row} {v : Str → Bool} {E : XK} {Q : VK} (h1 : MV C CM H m t rs v) (k : ∀ m3 H', Same H H' → MV C CM H' m3 t rs (fun z => !(v z)) → Q (.ref m3) H') : rInvC CM (spInv C CM) E (.ref m) H Q := by
  obtain ⟨dx, fs, e1⟩ := h1.at_
  exact ⟨m, dx, fs, rfl, e1, m, t, rs, v, rfl, h1, k⟩
theorem eq_eqV {rs : List Row} (hv : Valid rs) (v w : Str → Bool) : (decide (rs = rs) && (decide (v "top" = w "top") && decide (turnsG rs v = turnsG rs w))) = eqV rs v w := by
  rw [decide_eq_true (rfl : rs = rs), Bool.true_and, Bool.eq_iff_iff, Bool.and_eq_true, decide_eq_true_eq, decide_eq_true_eq, eqV_iff, ← val_all hv (turnsL_sub hv (turnsG_sub rs v)) (turnsL_sub hv (turnsG_sub rs w))]
  exact ⟨fun h z hz => by have := h z hz; rw [val_turnsG hv v z hz, val_turnsG hv w z hz] at this; exact this, fun h z hz => by rw [val_turnsG hv v z hz, val_turnsG hv w z hz]; exact h z hz⟩
theorem rd_eq {K : PySem.W.Frag} {C CM : Addr} {H : Hp} {m m2 t t2 : Addr} {rs : List Row} {v w : Str → Bool} {E : XK} {Q : VK} (h1 : MV C CM H m t rs v) (h2 : MV C CM H m2 t2 rs w) (k : Q (.bl (eqV rs v w)) H) : rEqC K CM (spMEq K C CM) E (.ref m) (.ref m2) H Q := by
  obtain ⟨dx, fs, e1⟩ := h1.at_
  obtain ⟨dy, gs, e2⟩ := h2.at_
  refine ⟨m, dx, fs, .ref CM, rfl, e1, .ins e2, nfM, m, t, _, rs, _, _, rfl, h1.turns, .inl ⟨m2, t2, rs, _, _, rfl, h2.turns, _, rfl, ?_⟩⟩
  rw [eq_eqV h1.valid]
  exact k
theorem rd_ne {K : PySem.W.Frag} {C CM : Addr} {H : Hp} {m m2 t t2 : Addr} {rs : List Row} {v w : Str → Bool} {E : XK} {Q : VK} (h1 : MV C CM H m t rs v) (h2 : MV C CM H m2 t2 rs w) (k : Q (.bl (!eqV rs v w)) H) : rNeC K CM (spMEq K C CM) E (.ref m) (.ref m2) H Q := by
  obtain ⟨dx, fs, e1⟩ := h1.at_
  obtain ⟨dy, gs, e2⟩ := h2.at_
  refine ⟨m, dx, fs, .ref CM, rfl, e1, .ins e2, nfM, m, t, _, rs, _, _, rfl, h1.turns, .inl ⟨m2, t2, rs, _, _, rfl, h2.turns, _, rfl, ?_⟩⟩
  rw [eq_eqV h1.valid]
  exact k
theorem turned_not (ts : List Str) : ∀ (l : List Str) (d : Bool), turned (!d) ts l = !(turned d ts l)
  | [], _ => rfl
  | x :: l, d => by
    show turned (if x ∈ ts then !(!d) else !d) ts l = !(turned (if x ∈ ts then !d else d) ts l)
    rw [← turned_not ts l]
    by_cases h : x ∈ ts
    · rw [if_pos h, if_pos h]
    · rw [if_neg h, if_neg h]
end Ts

set_option maxRecDepth 100000
set_option maxHeartbeats 4000000
namespace Ts
open PySem L2
/-- a dict comprehension over any walk -/
theorem dc_walk {J : It} {n : Nat} {G : Hp → Prop} {Y : Nat → Hp → V → Hp → Prop} (wk : Walk J n G Y) {g : TG} {tt : TT} {tk tv : TE} {us : List Nat} {σ : L2.St} {H0 : Hp} {D : Addr} {Qd : Hp → Prop} (I : Nat → Hp → Prop) (start : I 0 (upd H0 D (.dK []))) (stays : ∀ i H, i ≤ n → I i H → G H)
    (turn : ∀ i x H H', i < n → I i H → Y i H x H' → g x (wipe σ us) H' fun σ2 H2 => wipe σ2 us = wipe σ us ∧ tt σ2 H2 fun b H3 => if b = true then tk σ2 H3 fun y H4 => tv σ2 H4 fun z H5 => ∃ kvs k, y = kV k ∧ H5 D = some (.dK kvs) ∧ kvs.length < sizeLine ∧ I (i + 1) (upd H5 D (.dK (putK kvs k z))) else I (i + 1) H3)
    (done : ∀ H, I n H → Qd H) : ∃ W : Nat → Nat → Hp → Prop, (∃ m, W 0 m (upd H0 D (.dK []))) ∧ ∀ i m H, W i m H → (J.stop i H ∧ Qd H) ∨ (J.go i H ∧ ∃ Nx : Hp → Prop, (∀ H', Nx H' → ∃ m', m' < m ∧ W (i + 1) m' H') ∧ ∀ x H', J.yld i H x H' → g x (wipe σ us) H' fun σ2 H2 => wipe σ2 us = wipe σ us ∧ tt σ2 H2 fun b H3 =>
      if b = true then tk σ2 H3 fun y H4 => tv σ2 H4 fun z H5 => ∃ kvs k, y = kV k ∧ H5 D = some (.dK kvs) ∧ kvs.length < sizeLine ∧ Nx (upd H5 D (.dK (putK kvs k z))) else Nx H3) := by
  refine ⟨fun i m H => m = n - i ∧ i ≤ n ∧ I i H, ⟨n, rfl, Nat.zero_le _, start⟩, ?_⟩
  rintro i m H ⟨rfl, hi, here⟩
  have ok := stays i H hi here
  rcases Nat.lt_or_ge i n with lt | ge
  · exact .inr ⟨wk.goes i H lt ok, I (i + 1), fun H' h' => ⟨n - (i + 1), by omega, rfl, lt, h'⟩, fun x H' y => turn i x H H' lt here (wk.yields i H x H' lt ok y)⟩
  · obtain rfl : i = n := Nat.le_antisymm hi ge
    exact .inl ⟨wk.stops H ok, done H here⟩
def spCheckTrees (C CM : Addr) : Sp := fun vs H Q _ => ∃ (m m2 t t2 : Addr) (rs : List Row) (d d2 : Bool) (ts ts2 : List Str), vs = [.ref m, .ref m2] ∧ MeanAt C CM H m t rs d ts ∧ MeanAt C CM H m2 t2 rs d2 ts2 ∧ Q .non H
section
variable {P : Program} {w : World} {K : PySem.W.Frag} {mg : Str → Option Value} {base : Heap} {C CM : Addr}
theorem sc_check_trees : FnScope ["one", "other"] ["one", "other"] (defScope s_check_trees) := ⟨rfl, rfl, rfl, by decide +kernel, rfl, by decide +kernel, by decide +kernel⟩
theorem ok_check_trees (D : DefAt K mg "check_trees" s_check_trees ["one", "other"]) (M : TxM K mg CM) (N : TxN K C)
    (mE : MethAt K C "__eq__" "Tree.__eq__" s_Tree_eq ["self", "other"]) (GE : FnOk P w K mg base CX0 2 mE.f mE.fd ["self", "other"] (spEqT K C)) : FnOk P w K mg base CX0 4 D.f D.fd ["one", "other"] (spCheckTrees C CM) := by
  refine D.F.ok sc_check_trees (fun vs H Q E h => ?_) (fun cdv A outer s H vs Q E hr h => ?_)
  · obtain ⟨m, m2, t, t2, rs, d, d2, ts, ts2, rfl, _⟩ := h
    rfl
  · obtain ⟨m, m2, t, t2, rs, d, d2, ts, ts2, rfl, hm, hm2, hq⟩ := h
    obtain ⟨dx, u, k, h1, h2, h3⟩ := hm.ex
    obtain ⟨dx2, u2, k2, g1, g2, g3⟩ := hm2.ex
    obtain ⟨tdx, _, _, _, _, _, t1, _⟩ := id hm.tree.ex
    obtain ⟨tdx2, _, _, _, _, _, t3, _⟩ := id hm2.tree.ex
    refine ⟨_, pss_one (ps_if (pt_cmpR (op_neC GE mE.m N.ne N.ob hr mE.b pass0) (pe_fld (pv 0) rfl) (pe_fld (pv 1) rfl) (nomark _)) (pss_one ps_never) pss_nil), ?_⟩
    refine ⟨_, rfl, m, CM, dx, _, _, rfl, h1, M.cl, M.nt, mf_t _ _ _ _, _, rfl, m2, CM, dx2, _, _, rfl, g1, M.cl, M.nt, mf_t _ _ _ _, t, tdx, _, .ref C, rfl, t1, .ins t3, nfC, t, _, rs, rfl, hm.tree, .inl ⟨t2, rs, rfl, hm2.tree, _, rfl, _, rfl, ?_⟩⟩
    exact iteF' (by simp) hq
abbrev nWith : List Str := ["tree", "values", "turns", "box"]
theorem sc_with : FnScope nWith ["tree", "values"] (defScope s_with_values) := ⟨rfl, rfl, rfl, by decide +kernel, rfl, by decide +kernel, by decide +kernel⟩
theorem ok_with {fM : Addr} {fdM : FuncData} (D : DefAt K mg "with_values" s_with_values ["tree", "values"]) (TC : TxC K mg) (T : TxT K mg C) (M : TxM K mg CM)
    (MM : Mk K CM fM) (bM : Binds K fdM ["self", "tree", "default", "turns"] []) (GM : FnOk P w K mg base CX0 7 fM fdM ["self", "tree", "default", "turns"] (spMeaningInit K C CM))
    (mB : MethAt K C "below" "Tree.below" s_Tree_below ["self", "box"]) (GB : FnOk P w K mg base CX0 5 mB.f mB.fd ["self", "box"] (spListOf C belowL))
    (mF : MethAt K C "folder" "Tree.folder" s_Tree_folder ["self", "box"]) (GF : FnOk P w K mg base CX0 4 mF.f mF.fd ["self", "box"] (spGet C fun r => .str r.fo)) : FnOk P w K mg base CX0 9 D.f D.fd ["tree", "values"] (spWith C CM) := by
  obtain ⟨t1, gT⟩ := TC.top
  refine D.F.ok sc_with (fun vs H Q E h => ?_) (fun cdv A outer s H vs Q E hr h => ?_)
  · obtain ⟨t, vd, rs, v, rfl, _⟩ := h
    rfl
  · obtain ⟨t, vd, rs, v, rfl, ht, hvd, hlk, hq⟩ := h
    have hu := hu_of hr
    have hr4 : Room 5 _ := hr.mono (by decide)
    have hr3 : Room 4 _ := hr.mono (by decide)
    refine ⟨_, pss_cons (ps_setLc (i := 2) (own := [("box", 3)]) (g := gName 3) (tt := tTest (tOp rNe (tDGet (tVar 1) (tVar 3)) (tDGet (tVar 1) (tMeth C "folder" (spGet C fun r => .str r.fo) [] E0 (tVar 0) (tCons (tVar 3) tNil))))) (te := tVar 3) rfl sc_with.nd rfl rfl (sw_true rfl rfl rfl (by decide +kernel)) (pi_list (pe_meth (pv 0) T.cl mB.m GB hr4 mB.b .nil pass0 (pa_cons (pe_glob (by rfl) gT (v := .str ("top" : Str)) ⟨_, rfl⟩) pa_nil))) (blkOk_by (N := nWith) (sc := defScope s_with_values) (by decide +kernel))
        (fun _ _ _ _ _ => pg_name (i := 3) sc_with.nd rfl (Or.inl rfl)) (fun _ _ _ _ _ => by exact pts_one (pt_cmpR op_ne (pe_dget hu (pv 1) (pv 3) (fun _ _ => rfl)) (pe_dget hu (pv 1) (pe_meth (pv 0) T.cl mF.m GF hr3 mF.b .nil pass0 (pa_cons (pv 3) pa_nil)) (fun _ _ => rfl)) (nomark _))) (fun _ _ _ _ _ => pv 3))
      (pss_one (ps_ret (pe_make MM GM hr rfl M.g bM .nil pass0 (pa_cons (pv 0) (pa_cons (pe_dget hu (pv 1) (pe_glob (by rfl) gT (v := .str ("top" : Str)) ⟨_, rfl⟩) (fun _ _ => rfl)) (pa_cons (pv 2) pa_nil)))))), ?_⟩
    have hv := ht.val
    have l100 := ht.len
    obtain ⟨dx, q, f, k, p, qs, h1, _⟩ := id ht.ex
    have noB : (tf q f k p).lookup ("below" : Str) = none := tf_no _ _ _ _ (by decide +kernel) (by decide +kernel) (by decide +kernel) (by decide +kernel)
    have noF : (tf q f k p).lookup ("folder" : Str) = none := tf_no _ _ _ _ (by decide +kernel) (by decide +kernel) (by decide +kernel) (by decide +kernel)
    refine ⟨_, rfl, t, dx, _, rfl, h1, noB, t, ("top" : Str), rs, rfl, ht, .inl rfl, fun bl H2 hbl s2 e2 => ?_⟩
    rw [below_top hv] at e2
    refine ⟨bl, rfl, ⟨_, SqL.of e2⟩, fun D hD => ?_⟩
    refine lc_list (K := K) (a := bl) (xs := (names rs).map V.str) (fun i H' => Same H2 H' ∧ H' D = some (.lst ((((rs.take i).filter fun r => decide (v r.nm ≠ v r.fo)).map (·.nm)).map V.str))) ⟨Same.new hD, upd_same⟩ (fun i H' _ m => m.1.seq (SqL.of e2)) ?_ ?_
    · rintro i x H3 hxi ⟨s3, hD3⟩
      unfold names at hxi
      rw [List.getElem?_map, List.getElem?_map] at hxi
      obtain ⟨n1, hn1, rfl⟩ := Option.map_eq_some_iff.mp hxi
      obtain ⟨r, hr', rfl⟩ := Option.map_eq_some_iff.mp hn1
      have hrm := List.mem_of_getElem? hr'
      have s23 := s2.trans s3
      have dg := DGet.k (k := Sum.inr r.nm) (s23 _ _ hvd)
      rw [valV_kvG v (nm_plc hrm)] at dg
      have dg2 := DGet.k (k := Sum.inr r.fo) (s23 _ _ hvd)
      rw [valV_kvG v (fo_plc hv hrm)] at dg2
      have szD : (((rs.take i).filter fun r => decide (v r.nm ≠ v r.fo)).map (·.nm)).length ≤ 1000 := by
        rw [List.length_map]
        have h1 := List.length_filter_le (fun r : Row => decide (v r.nm ≠ v r.fo)) (rs.take i)
        rw [List.length_take] at h1
        omega
      refine ⟨rfl, _, rfl, _, rfl, vd, _, rfl, dg, _, rfl, _, rfl, t, dx, _, rfl, s23 _ _ h1, noF, _, rfl, t, r.nm, rs, r, rfl, ht.same s23, rowOf_at hv hr', vd, _, rfl, dg2, rfl, _, rfl, ?_⟩
      have e0 : (!decide (V.bl (v r.nm) = V.bl (v r.fo))) = decide (v r.nm ≠ v r.fo) := by
        cases v r.nm <;> cases v r.fo <;> rfl
      rw [e0]
      refine ite2 (fun hc => ?_) (fun hc => ?_)
      · refine ⟨_, rfl, _, hD3, by rw [List.length_map]; exact small1000 szD, fun b o eb => ?_, ?_⟩
        · rw [upd_ne (fun y => by rw [y, hD] at eb; cases eb)]
          exact s3 _ _ eb
        · rw [upd_same, filter_take hr', if_pos hc, List.map_append]; rfl
      · refine ⟨s3, ?_⟩
        rw [filter_take hr', if_neg hc, List.append_nil]
        exact hD3
    rintro H3 ⟨s3, hD3⟩
    rw [show ((names rs).map V.str).length = rs.length from by unfold names; rw [List.length_map, List.length_map], List.take_length] at hD3
    have s23 := s2.trans s3
    have dgt := DGet.k (k := Sum.inr ("top" : Str)) (s23 _ _ hvd)
    rw [valV_kvG v (mem_plc.mpr (.inl rfl))] at dgt
    refine ⟨_, rfl, _, rfl, vd, _, rfl, dgt, _, rfl, ?_⟩
    have fr : ∀ z ∈ turnsG rs v, Free rs z := fun z hz => by
      obtain ⟨r, hr, rfl⟩ := List.mem_map.mp hz
      rw [List.mem_filter, decide_eq_true_eq] at hr
      obtain ⟨i, hi, e⟩ := List.mem_iff_getElem.mp hr.1
      exact ⟨r, rowOf_at hv (by rw [← e]; exact List.getElem?_eq_getElem hi), fun q => hr.2 (hlk r hr.1 q)⟩
    refine fun m dm nm nd _ => ⟨m, dm, t, D, v "top", turnsG rs v, rs, rfl, upd_same, (ht.same s23).same (mk_same0 nm nd), SqX.same (.inl (SqL.of hD3)) (mk_same0 nm nd), fr, fun H4 sb4 hm => ⟨rfl, ?_⟩⟩
    rw [turnsL_sub hv (turnsG_sub rs v)] at hm
    exact hq m H4 (s23.trans (mk_same nm nd sb4)) ⟨⟨_, _, hm, val_turnsG hv v⟩, hlk⟩
theorem sc_M_xor : FnScope ["self", "other", "box"] ["self", "other"] (defScope s_Meaning_xor) := ⟨rfl, rfl, rfl, by decide +kernel, rfl, by decide +kernel, by decide +kernel⟩
theorem ok_M_xor {f : Addr} {fd : FuncData} (F : Fun K "__xor__" "Meaning.__xor__" s_Meaning_xor f fd) (M : TxM K mg CM) (Dc : DefAt K mg "check_trees" s_check_trees ["one", "other"]) (Gc : FnOk P w K mg base CX0 4 Dc.f Dc.fd ["one", "other"] (spCheckTrees C CM))
    (Dw : DefAt K mg "with_values" s_with_values ["tree", "values"]) (Gw : FnOk P w K mg base CX0 9 Dw.f Dw.fd ["tree", "values"] (spWith C CM)) : FnOk P w K mg base CX0 10 f fd ["self", "other"] (spBin C CM fun a b => a != b) := by
  refine F.ok sc_M_xor (fun vs H Q E h => ?_) (fun cdv A outer s H vs Q E hr h => ?_)
  · obtain ⟨m, m2, t, t2, rs, v, w', rfl, _⟩ := h
    rfl
  · obtain ⟨m, m2, t, t2, rs, v, w', rfl, hm, hm2, hq⟩ := h
    have hu := hu_of hr
    have hr3 : Room 4 _ := hr.mono (by decide)
    have hv := hm.valid
    have hl := hm.turns.tree.len
    obtain ⟨dx, u, k, h1, h2, h3⟩ := hm.turns.ex
    obtain ⟨dx2, u2, k2, g1, g2, g3⟩ := hm2.turns.ex
    rw [kvM_kvG hv (val_turnsG hv v)] at h3
    rw [kvM_kvG hv (val_turnsG hv w')] at g3
    refine ⟨_, pss_cons (ps_expr (pe_call Gc hr3 rfl Dc.g Dc.F.kp Dc.b .nil pass0 (pa_cons (pv 0) (pa_cons (pv 1) pa_nil))))
      (pss_one (ps_ret (pe_call Gw hr rfl Dw.g Dw.F.kp Dw.b .nil pass0 (pa_cons (pe_fld (pv 0) rfl) (pa_cons (pe_lock (pe_dc (own := [("box", 2)]) (g := gName 2) (tt := tYes) (tk := tVar 2) (tv := tOp rNe (tDGet (tFld K (tVar 0) "known") (tVar 2)) (tDGet (tFld K (tVar 1) "known") (tVar 2))) rfl sc_M_xor.nd (pi_keys (pe_fld (pv 0) rfl)) (blkOk_by (N := ["self", "other", "box"]) (sc := defScope s_Meaning_xor) (by decide +kernel))
        (fun _ _ _ _ _ => pg_name (i := 2) sc_M_xor.nd rfl (Or.inl rfl)) (fun _ _ _ _ _ => pts_nil) (fun _ _ _ _ _ => pv 2) (fun _ _ _ _ _ => by exact pe_cmpR op_ne (pe_dget hu (pe_fld (pv 0) rfl) (pv 2) (fun _ _ => rfl)) (pe_dget hu (pe_fld (pv 1) rfl) (pv 2) (fun _ _ => rfl)) (nomark _)))) pa_nil))))), ?_⟩
    refine ⟨_, rfl, _, rfl, m, m2, t, t2, rs, _, _, _, _, rfl, hm.turns, hm2.turns, ?_⟩
    refine ⟨_, rfl, m, CM, dx, _, _, rfl, h1, M.cl, M.nt, mf_t _ _ _ _, ?_⟩
    refine ⟨k, _, h3, trivial, fun od => ?_⟩
    obtain ⟨Hl, El⟩ : ∃ Hx, Hx = upd H k (.frz od (.dK (kvG rs v))) := ⟨_, rfl⟩
    have lk : Hl k = some (.frz od (.dK (kvG rs v))) := by rw [El]; exact upd_same
    have l1 : Hl m = some (.ins CM dx (mf t u k (v "top"))) := by
      rw [El, upd_ne (fun e => by rw [e, h3] at h1; cases h1)]; exact h1
    have l2 : Hl m2 = some (.ins CM dx2 (mf t2 u2 k2 (w' "top"))) := by
      rw [El, upd_ne (fun e => by rw [e, h3] at g1; cases g1)]; exact g1
    have back : ∀ {H' : Hp}, Same Hl H' → Same H (upd H' k (.dK (kvG rs v))) := fun {H'} sl b o e => by
      by_cases q : b = k
      · rw [q, upd_same, ← e, q]; exact h3.symm
      · rw [upd_ne q]; exact sl _ _ (by rw [El, upd_ne q]; exact e)
    have lk2 : ∃ kv, Rd Hl k2 (.dK kv) ∧ kv = kvG rs w' := by
      by_cases q : k2 = k
      · rw [q] at g3
        rw [h3] at g3
        have e3 := HO.dK.inj (Option.some.inj g3)
        exact ⟨_, by rw [q]; exact .inr ⟨od, lk⟩, e3⟩
      · exact ⟨_, .inl (by rw [El, upd_ne q]; exact g3), rfl⟩
    obtain ⟨kv2, rd2, rfl⟩ := lk2
    rw [← El]
    clear El
    refine ⟨_, rfl, m, CM, dx, _, _, rfl, l1, M.cl, M.nk, mf_k _ _ _ _, k, od, rfl, .inl ⟨_, lk, fun D hD => ?_⟩⟩
    have nD : D ≠ k := (ne_of_none lk hD).symm
    have lp : (plc rs).length ≤ 101 := by unfold plc names; rw [List.length_cons, List.length_map]; omega
    refine dc_walk (walk_keys (d := k) (o := od) (kvs := kvG rs v)) (fun i H' => Same Hl H' ∧ H' D = some (.dK (((plc rs).take i).map fun z => ((.inr z : Key), V.bl ((fun a b => a != b) (v z) (w' z)))))) ⟨Same.new hD, upd_same⟩ (fun i H' _ m => m.1 _ _ lk) ?_ ?_
    · rintro i x H5x H5 hi ⟨s5, hD5⟩ ⟨rfl, k', v', hk, rfl⟩
      obtain ⟨z, rfl, hz⟩ := kvG_at hk
      have hzm := List.mem_of_getElem? hz
      have dg1 : DGet H5 k (.str z) (some (.bl (v z))) := .inl ⟨_, .inr z, .inr ⟨od, s5 _ _ lk⟩, rfl, (valV_kvG v hzm).symm⟩
      have dg2 : DGet H5 k2 (.str z) (some (.bl (w' z))) := .inl ⟨_, .inr z, rd2.imp (s5 _ _) (fun ⟨o, e⟩ => ⟨o, s5 _ _ e⟩), rfl, (valV_kvG w' hzm).symm⟩
      refine ⟨rfl, tYes_if ?_⟩
      refine ⟨_, rfl, _, rfl, m, CM, dx, _, _, rfl, s5 _ _ l1, M.cl, M.nk, mf_k _ _ _ _, _, rfl, k, _, rfl, dg1, _, rfl, m2, CM, dx2, _, _, rfl, s5 _ _ l2, M.cl, M.nk, mf_k _ _ _ _, _, rfl, k2, _, rfl, dg2, rfl, ?_⟩
      have e9 : (upd H5 D (.dK (putK (((plc rs).take i).map fun z => ((.inr z : Key), V.bl (v z != w' z))) (.inr z) (.bl (!decide (V.bl (v z) = V.bl (w' z))))))) D = some (.dK (((plc rs).take (i + 1)).map fun z => ((.inr z : Key), V.bl (v z != w' z)))) := by
        rw [upd_same, ← kvP_more (plc_nodup hv) (fun z => v z != w' z) hz]
        cases v z <;> cases w' z <;> rfl
      exact ⟨_, .inr z, rfl, hD5, small1000 (by rw [List.length_map, List.length_take]; omega), fun b o eb => by
          rw [upd_ne (fun y => by rw [y, hD] at eb; cases eb)]
          exact s5 _ _ eb, e9⟩
    rintro H5 ⟨s5, hD5⟩
    rw [kvG_len, List.take_length] at hD5
    refine ⟨s5 _ _ lk, ?_⟩
    have bk := back s5
    refine ⟨t, D, rs, fun z => (fun a b => a != b) (v z) (w' z), rfl, hm.turns.tree.same bk, by rw [upd_ne nD]; exact hD5, fun r hr q => ?_, fun m3 H6 s6 hm3 => hq m3 H6 (bk.trans s6) hm3⟩
    show (fun a b => a != b) (v r.nm) (w' r.nm) = (fun a b => a != b) (v r.fo) (w' r.fo)
    rw [hm.lk r hr q, hm2.lk r hr q]
theorem sc_M_and : FnScope ["self", "other", "box"] ["self", "other"] (defScope s_Meaning_and) := ⟨rfl, rfl, rfl, by decide +kernel, rfl, by decide +kernel, by decide +kernel⟩
theorem ok_M_and {f : Addr} {fd : FuncData} (F : Fun K "__and__" "Meaning.__and__" s_Meaning_and f fd) (M : TxM K mg CM) (Dc : DefAt K mg "check_trees" s_check_trees ["one", "other"]) (Gc : FnOk P w K mg base CX0 4 Dc.f Dc.fd ["one", "other"] (spCheckTrees C CM))
    (Dw : DefAt K mg "with_values" s_with_values ["tree", "values"]) (Gw : FnOk P w K mg base CX0 9 Dw.f Dw.fd ["tree", "values"] (spWith C CM)) : FnOk P w K mg base CX0 10 f fd ["self", "other"] (spBin C CM fun a b => a && b) := by
  refine F.ok sc_M_and (fun vs H Q E h => ?_) (fun cdv A outer s H vs Q E hr h => ?_)
  · obtain ⟨m, m2, t, t2, rs, v, w', rfl, _⟩ := h
    rfl
  · obtain ⟨m, m2, t, t2, rs, v, w', rfl, hm, hm2, hq⟩ := h
    have hu := hu_of hr
    have hr3 : Room 4 _ := hr.mono (by decide)
    have hv := hm.valid
    have hl := hm.turns.tree.len
    obtain ⟨dx, u, k, h1, h2, h3⟩ := hm.turns.ex
    obtain ⟨dx2, u2, k2, g1, g2, g3⟩ := hm2.turns.ex
    rw [kvM_kvG hv (val_turnsG hv v)] at h3
    rw [kvM_kvG hv (val_turnsG hv w')] at g3
    refine ⟨_, pss_cons (ps_expr (pe_call Gc hr3 rfl Dc.g Dc.F.kp Dc.b .nil pass0 (pa_cons (pv 0) (pa_cons (pv 1) pa_nil))))
      (pss_one (ps_ret (pe_call Gw hr rfl Dw.g Dw.F.kp Dw.b .nil pass0 (pa_cons (pe_fld (pv 0) rfl) (pa_cons (pe_lock (pe_dc (own := [("box", 2)]) (g := gName 2) (tt := tYes) (tk := tVar 2) (tv := tAndV (tDGet (tFld K (tVar 0) "known") (tVar 2)) (tDGet (tFld K (tVar 1) "known") (tVar 2))) rfl sc_M_and.nd (pi_keys (pe_fld (pv 0) rfl)) (blkOk_by (N := ["self", "other", "box"]) (sc := defScope s_Meaning_and) (by decide +kernel))
        (fun _ _ _ _ _ => pg_name (i := 2) sc_M_and.nd rfl (Or.inl rfl)) (fun _ _ _ _ _ => pts_nil) (fun _ _ _ _ _ => pv 2) (fun _ _ _ _ _ => by exact pe_and (pe_dget hu (pe_fld (pv 0) rfl) (pv 2) (fun _ _ => rfl)) (pe_one (pe_dget hu (pe_fld (pv 1) rfl) (pv 2) (fun _ _ => rfl)))))) pa_nil))))), ?_⟩
    refine ⟨_, rfl, _, rfl, m, m2, t, t2, rs, _, _, _, _, rfl, hm.turns, hm2.turns, ?_⟩
    refine ⟨_, rfl, m, CM, dx, _, _, rfl, h1, M.cl, M.nt, mf_t _ _ _ _, ?_⟩
    refine ⟨k, _, h3, trivial, fun od => ?_⟩
    obtain ⟨Hl, El⟩ : ∃ Hx, Hx = upd H k (.frz od (.dK (kvG rs v))) := ⟨_, rfl⟩
    have lk : Hl k = some (.frz od (.dK (kvG rs v))) := by rw [El]; exact upd_same
    have l1 : Hl m = some (.ins CM dx (mf t u k (v "top"))) := by
      rw [El, upd_ne (fun e => by rw [e, h3] at h1; cases h1)]; exact h1
    have l2 : Hl m2 = some (.ins CM dx2 (mf t2 u2 k2 (w' "top"))) := by
      rw [El, upd_ne (fun e => by rw [e, h3] at g1; cases g1)]; exact g1
    have back : ∀ {H' : Hp}, Same Hl H' → Same H (upd H' k (.dK (kvG rs v))) := fun {H'} sl b o e => by
      by_cases q : b = k
      · rw [q, upd_same, ← e, q]; exact h3.symm
      · rw [upd_ne q]; exact sl _ _ (by rw [El, upd_ne q]; exact e)
    have lk2 : ∃ kv, Rd Hl k2 (.dK kv) ∧ kv = kvG rs w' := by
      by_cases q : k2 = k
      · rw [q] at g3
        rw [h3] at g3
        have e3 := HO.dK.inj (Option.some.inj g3)
        exact ⟨_, by rw [q]; exact .inr ⟨od, lk⟩, e3⟩
      · exact ⟨_, .inl (by rw [El, upd_ne q]; exact g3), rfl⟩
    obtain ⟨kv2, rd2, rfl⟩ := lk2
    rw [← El]
    clear El
    refine ⟨_, rfl, m, CM, dx, _, _, rfl, l1, M.cl, M.nk, mf_k _ _ _ _, k, od, rfl, .inl ⟨_, lk, fun D hD => ?_⟩⟩
    have nD : D ≠ k := (ne_of_none lk hD).symm
    have lp : (plc rs).length ≤ 101 := by unfold plc names; rw [List.length_cons, List.length_map]; omega
    refine dc_walk (walk_keys (d := k) (o := od) (kvs := kvG rs v)) (fun i H' => Same Hl H' ∧ H' D = some (.dK (((plc rs).take i).map fun z => ((.inr z : Key), V.bl ((fun a b => a && b) (v z) (w' z)))))) ⟨Same.new hD, upd_same⟩ (fun i H' _ m => m.1 _ _ lk) ?_ ?_
    · rintro i x H5x H5 hi ⟨s5, hD5⟩ ⟨rfl, k', v', hk, rfl⟩
      obtain ⟨z, rfl, hz⟩ := kvG_at hk
      have hzm := List.mem_of_getElem? hz
      have dg1 : DGet H5 k (.str z) (some (.bl (v z))) := .inl ⟨_, .inr z, .inr ⟨od, s5 _ _ lk⟩, rfl, (valV_kvG v hzm).symm⟩
      have dg2 : DGet H5 k2 (.str z) (some (.bl (w' z))) := .inl ⟨_, .inr z, rd2.imp (s5 _ _) (fun ⟨o, e⟩ => ⟨o, s5 _ _ e⟩), rfl, (valV_kvG w' hzm).symm⟩
      refine ⟨rfl, tYes_if ⟨_, rfl, _, rfl, m, CM, dx, _, _, rfl, s5 _ _ l1, M.cl, M.nk, mf_k _ _ _ _, _, rfl, k, _, rfl, dg1, _, rfl, ?_⟩⟩
      have e9 : ∀ b : Bool, b = (v z && w' z) → (upd H5 D (.dK (putK (((plc rs).take i).map fun z => ((.inr z : Key), V.bl (v z && w' z))) (.inr z) (.bl b)))) D = some (.dK (((plc rs).take (i + 1)).map fun z => ((.inr z : Key), V.bl (v z && w' z)))) := fun b e => by
        rw [upd_same, e, ← kvP_more (plc_nodup hv) (fun z => v z && w' z) hz]
      refine ite2 (fun hc => ?_) (fun hc => ?_)
      · refine ⟨_, rfl, m2, CM, dx2, _, _, rfl, s5 _ _ l2, M.cl, M.nk, mf_k _ _ _ _, _, rfl, k2, _, rfl, dg2, ?_⟩
        refine ⟨_, .inr z, rfl, hD5, small1000 (by rw [List.length_map, List.length_take]; omega), fun b o eb => by
          rw [upd_ne (fun y => by rw [y, hD] at eb; cases eb)]
          exact s5 _ _ eb, e9 _ (by rw [hc]; rfl)⟩
      · have hc' : v z = false := by simpa using hc
        refine ⟨_, .inr z, rfl, hD5, small1000 (by rw [List.length_map, List.length_take]; omega), fun b o eb => by
          rw [upd_ne (fun y => by rw [y, hD] at eb; cases eb)]
          exact s5 _ _ eb, e9 false (by rw [hc']; rfl)⟩
    rintro H5 ⟨s5, hD5⟩
    rw [kvG_len, List.take_length] at hD5
    refine ⟨s5 _ _ lk, ?_⟩
    have bk := back s5
    refine ⟨t, D, rs, fun z => (fun a b => a && b) (v z) (w' z), rfl, hm.turns.tree.same bk, by rw [upd_ne nD]; exact hD5, fun r hr q => ?_, fun m3 H6 s6 hm3 => hq m3 H6 (bk.trans s6) hm3⟩
    show (fun a b => a && b) (v r.nm) (w' r.nm) = (fun a b => a && b) (v r.fo) (w' r.fo)
    rw [hm.lk r hr q, hm2.lk r hr q]
theorem sc_M_or : FnScope ["self", "other", "box"] ["self", "other"] (defScope s_Meaning_or) := ⟨rfl, rfl, rfl, by decide +kernel, rfl, by decide +kernel, by decide +kernel⟩
theorem ok_M_or {f : Addr} {fd : FuncData} (F : Fun K "__or__" "Meaning.__or__" s_Meaning_or f fd) (M : TxM K mg CM) (Dc : DefAt K mg "check_trees" s_check_trees ["one", "other"]) (Gc : FnOk P w K mg base CX0 4 Dc.f Dc.fd ["one", "other"] (spCheckTrees C CM))
    (Dw : DefAt K mg "with_values" s_with_values ["tree", "values"]) (Gw : FnOk P w K mg base CX0 9 Dw.f Dw.fd ["tree", "values"] (spWith C CM)) : FnOk P w K mg base CX0 10 f fd ["self", "other"] (spBin C CM fun a b => a || b) := by
  refine F.ok sc_M_or (fun vs H Q E h => ?_) (fun cdv A outer s H vs Q E hr h => ?_)
  · obtain ⟨m, m2, t, t2, rs, v, w', rfl, _⟩ := h
    rfl
  · obtain ⟨m, m2, t, t2, rs, v, w', rfl, hm, hm2, hq⟩ := h
    have hu := hu_of hr
    have hr3 : Room 4 _ := hr.mono (by decide)
    have hv := hm.valid
    have hl := hm.turns.tree.len
    obtain ⟨dx, u, k, h1, h2, h3⟩ := hm.turns.ex
    obtain ⟨dx2, u2, k2, g1, g2, g3⟩ := hm2.turns.ex
    rw [kvM_kvG hv (val_turnsG hv v)] at h3
    rw [kvM_kvG hv (val_turnsG hv w')] at g3
    refine ⟨_, pss_cons (ps_expr (pe_call Gc hr3 rfl Dc.g Dc.F.kp Dc.b .nil pass0 (pa_cons (pv 0) (pa_cons (pv 1) pa_nil))))
      (pss_one (ps_ret (pe_call Gw hr rfl Dw.g Dw.F.kp Dw.b .nil pass0 (pa_cons (pe_fld (pv 0) rfl) (pa_cons (pe_lock (pe_dc (own := [("box", 2)]) (g := gName 2) (tt := tYes) (tk := tVar 2) (tv := tOrV (tDGet (tFld K (tVar 0) "known") (tVar 2)) (tDGet (tFld K (tVar 1) "known") (tVar 2))) rfl sc_M_or.nd (pi_keys (pe_fld (pv 0) rfl)) (blkOk_by (N := ["self", "other", "box"]) (sc := defScope s_Meaning_or) (by decide +kernel))
        (fun _ _ _ _ _ => pg_name (i := 2) sc_M_or.nd rfl (Or.inl rfl)) (fun _ _ _ _ _ => pts_nil) (fun _ _ _ _ _ => pv 2) (fun _ _ _ _ _ => by exact pe_or (pe_dget hu (pe_fld (pv 0) rfl) (pv 2) (fun _ _ => rfl)) (pe_one (pe_dget hu (pe_fld (pv 1) rfl) (pv 2) (fun _ _ => rfl)))))) pa_nil))))), ?_⟩
    refine ⟨_, rfl, _, rfl, m, m2, t, t2, rs, _, _, _, _, rfl, hm.turns, hm2.turns, ?_⟩
    refine ⟨_, rfl, m, CM, dx, _, _, rfl, h1, M.cl, M.nt, mf_t _ _ _ _, ?_⟩
    refine ⟨k, _, h3, trivial, fun od => ?_⟩
    obtain ⟨Hl, El⟩ : ∃ Hx, Hx = upd H k (.frz od (.dK (kvG rs v))) := ⟨_, rfl⟩
    have lk : Hl k = some (.frz od (.dK (kvG rs v))) := by rw [El]; exact upd_same
    have l1 : Hl m = some (.ins CM dx (mf t u k (v "top"))) := by
      rw [El, upd_ne (fun e => by rw [e, h3] at h1; cases h1)]; exact h1
    have l2 : Hl m2 = some (.ins CM dx2 (mf t2 u2 k2 (w' "top"))) := by
      rw [El, upd_ne (fun e => by rw [e, h3] at g1; cases g1)]; exact g1
    have back : ∀ {H' : Hp}, Same Hl H' → Same H (upd H' k (.dK (kvG rs v))) := fun {H'} sl b o e => by
      by_cases q : b = k
      · rw [q, upd_same, ← e, q]; exact h3.symm
      · rw [upd_ne q]; exact sl _ _ (by rw [El, upd_ne q]; exact e)
    have lk2 : ∃ kv, Rd Hl k2 (.dK kv) ∧ kv = kvG rs w' := by
      by_cases q : k2 = k
      · rw [q] at g3
        rw [h3] at g3
        have e3 := HO.dK.inj (Option.some.inj g3)
        exact ⟨_, by rw [q]; exact .inr ⟨od, lk⟩, e3⟩
      · exact ⟨_, .inl (by rw [El, upd_ne q]; exact g3), rfl⟩
    obtain ⟨kv2, rd2, rfl⟩ := lk2
    rw [← El]
    clear El
    refine ⟨_, rfl, m, CM, dx, _, _, rfl, l1, M.cl, M.nk, mf_k _ _ _ _, k, od, rfl, .inl ⟨_, lk, fun D hD => ?_⟩⟩
    have nD : D ≠ k := (ne_of_none lk hD).symm
    have lp : (plc rs).length ≤ 101 := by unfold plc names; rw [List.length_cons, List.length_map]; omega
    refine dc_walk (walk_keys (d := k) (o := od) (kvs := kvG rs v)) (fun i H' => Same Hl H' ∧ H' D = some (.dK (((plc rs).take i).map fun z => ((.inr z : Key), V.bl ((fun a b => a || b) (v z) (w' z)))))) ⟨Same.new hD, upd_same⟩ (fun i H' _ m => m.1 _ _ lk) ?_ ?_
    · rintro i x H5x H5 hi ⟨s5, hD5⟩ ⟨rfl, k', v', hk, rfl⟩
      obtain ⟨z, rfl, hz⟩ := kvG_at hk
      have hzm := List.mem_of_getElem? hz
      have dg1 : DGet H5 k (.str z) (some (.bl (v z))) := .inl ⟨_, .inr z, .inr ⟨od, s5 _ _ lk⟩, rfl, (valV_kvG v hzm).symm⟩
      have dg2 : DGet H5 k2 (.str z) (some (.bl (w' z))) := .inl ⟨_, .inr z, rd2.imp (s5 _ _) (fun ⟨o, e⟩ => ⟨o, s5 _ _ e⟩), rfl, (valV_kvG w' hzm).symm⟩
      refine ⟨rfl, tYes_if ⟨_, rfl, _, rfl, m, CM, dx, _, _, rfl, s5 _ _ l1, M.cl, M.nk, mf_k _ _ _ _, _, rfl, k, _, rfl, dg1, _, rfl, ?_⟩⟩
      have e9 : ∀ b : Bool, b = (v z || w' z) → (upd H5 D (.dK (putK (((plc rs).take i).map fun z => ((.inr z : Key), V.bl (v z || w' z))) (.inr z) (.bl b)))) D = some (.dK (((plc rs).take (i + 1)).map fun z => ((.inr z : Key), V.bl (v z || w' z)))) := fun b e => by
        rw [upd_same, e, ← kvP_more (plc_nodup hv) (fun z => v z || w' z) hz]
      refine ite2 (fun hc => ?_) (fun hc => ?_)
      · refine ⟨_, .inr z, rfl, hD5, small1000 (by rw [List.length_map, List.length_take]; omega), fun b o eb => by
          rw [upd_ne (fun y => by rw [y, hD] at eb; cases eb)]
          exact s5 _ _ eb, e9 true (by rw [hc]; rfl)⟩
      · have hc' : v z = false := by simpa using hc
        refine ⟨_, rfl, m2, CM, dx2, _, _, rfl, s5 _ _ l2, M.cl, M.nk, mf_k _ _ _ _, _, rfl, k2, _, rfl, dg2, ?_⟩
        refine ⟨_, .inr z, rfl, hD5, small1000 (by rw [List.length_map, List.length_take]; omega), fun b o eb => by
          rw [upd_ne (fun y => by rw [y, hD] at eb; cases eb)]
          exact s5 _ _ eb, e9 _ (by rw [hc']; rfl)⟩
    rintro H5 ⟨s5, hD5⟩
    rw [kvG_len, List.take_length] at hD5
    refine ⟨s5 _ _ lk, ?_⟩
    have bk := back s5
    refine ⟨t, D, rs, fun z => (fun a b => a || b) (v z) (w' z), rfl, hm.turns.tree.same bk, by rw [upd_ne nD]; exact hD5, fun r hr q => ?_, fun m3 H6 s6 hm3 => hq m3 H6 (bk.trans s6) hm3⟩
    show (fun a b => a || b) (v r.nm) (w' r.nm) = (fun a b => a || b) (v r.fo) (w' r.fo)
    rw [hm.lk r hr q, hm2.lk r hr q]
theorem sc_M_sub : FnScope ["self", "other", "box"] ["self", "other"] (defScope s_Meaning_sub) := ⟨rfl, rfl, rfl, by decide +kernel, rfl, by decide +kernel, by decide +kernel⟩
theorem ok_M_sub {f : Addr} {fd : FuncData} (F : Fun K "__sub__" "Meaning.__sub__" s_Meaning_sub f fd) (M : TxM K mg CM) (Dc : DefAt K mg "check_trees" s_check_trees ["one", "other"]) (Gc : FnOk P w K mg base CX0 4 Dc.f Dc.fd ["one", "other"] (spCheckTrees C CM))
    (Dw : DefAt K mg "with_values" s_with_values ["tree", "values"]) (Gw : FnOk P w K mg base CX0 9 Dw.f Dw.fd ["tree", "values"] (spWith C CM)) : FnOk P w K mg base CX0 10 f fd ["self", "other"] (spBin C CM fun a b => a && !b) := by
  refine F.ok sc_M_sub (fun vs H Q E h => ?_) (fun cdv A outer s H vs Q E hr h => ?_)
  · obtain ⟨m, m2, t, t2, rs, v, w', rfl, _⟩ := h
    rfl
  · obtain ⟨m, m2, t, t2, rs, v, w', rfl, hm, hm2, hq⟩ := h
    have hu := hu_of hr
    have hr3 : Room 4 _ := hr.mono (by decide)
    have hv := hm.valid
    have hl := hm.turns.tree.len
    obtain ⟨dx, u, k, h1, h2, h3⟩ := hm.turns.ex
    obtain ⟨dx2, u2, k2, g1, g2, g3⟩ := hm2.turns.ex
    rw [kvM_kvG hv (val_turnsG hv v)] at h3
    rw [kvM_kvG hv (val_turnsG hv w')] at g3
    refine ⟨_, pss_cons (ps_expr (pe_call Gc hr3 rfl Dc.g Dc.F.kp Dc.b .nil pass0 (pa_cons (pv 0) (pa_cons (pv 1) pa_nil))))
      (pss_one (ps_ret (pe_call Gw hr rfl Dw.g Dw.F.kp Dw.b .nil pass0 (pa_cons (pe_fld (pv 0) rfl) (pa_cons (pe_lock (pe_dc (own := [("box", 2)]) (g := gName 2) (tt := tYes) (tk := tVar 2) (tv := tAndV (tDGet (tFld K (tVar 0) "known") (tVar 2)) (tNotV (tDGet (tFld K (tVar 1) "known") (tVar 2)))) rfl sc_M_sub.nd (pi_keys (pe_fld (pv 0) rfl)) (blkOk_by (N := ["self", "other", "box"]) (sc := defScope s_Meaning_sub) (by decide +kernel))
        (fun _ _ _ _ _ => pg_name (i := 2) sc_M_sub.nd rfl (Or.inl rfl)) (fun _ _ _ _ _ => pts_nil) (fun _ _ _ _ _ => pv 2) (fun _ _ _ _ _ => by exact pe_and (pe_dget hu (pe_fld (pv 0) rfl) (pv 2) (fun _ _ => rfl)) (pe_one (pe_not (pe_dget hu (pe_fld (pv 1) rfl) (pv 2) (fun _ _ => rfl))))))) pa_nil))))), ?_⟩
    refine ⟨_, rfl, _, rfl, m, m2, t, t2, rs, _, _, _, _, rfl, hm.turns, hm2.turns, ?_⟩
    refine ⟨_, rfl, m, CM, dx, _, _, rfl, h1, M.cl, M.nt, mf_t _ _ _ _, ?_⟩
    refine ⟨k, _, h3, trivial, fun od => ?_⟩
    obtain ⟨Hl, El⟩ : ∃ Hx, Hx = upd H k (.frz od (.dK (kvG rs v))) := ⟨_, rfl⟩
    have lk : Hl k = some (.frz od (.dK (kvG rs v))) := by rw [El]; exact upd_same
    have l1 : Hl m = some (.ins CM dx (mf t u k (v "top"))) := by
      rw [El, upd_ne (fun e => by rw [e, h3] at h1; cases h1)]; exact h1
    have l2 : Hl m2 = some (.ins CM dx2 (mf t2 u2 k2 (w' "top"))) := by
      rw [El, upd_ne (fun e => by rw [e, h3] at g1; cases g1)]; exact g1
    have back : ∀ {H' : Hp}, Same Hl H' → Same H (upd H' k (.dK (kvG rs v))) := fun {H'} sl b o e => by
      by_cases q : b = k
      · rw [q, upd_same, ← e, q]; exact h3.symm
      · rw [upd_ne q]; exact sl _ _ (by rw [El, upd_ne q]; exact e)
    have lk2 : ∃ kv, Rd Hl k2 (.dK kv) ∧ kv = kvG rs w' := by
      by_cases q : k2 = k
      · rw [q] at g3
        rw [h3] at g3
        have e3 := HO.dK.inj (Option.some.inj g3)
        exact ⟨_, by rw [q]; exact .inr ⟨od, lk⟩, e3⟩
      · exact ⟨_, .inl (by rw [El, upd_ne q]; exact g3), rfl⟩
    obtain ⟨kv2, rd2, rfl⟩ := lk2
    rw [← El]
    clear El
    refine ⟨_, rfl, m, CM, dx, _, _, rfl, l1, M.cl, M.nk, mf_k _ _ _ _, k, od, rfl, .inl ⟨_, lk, fun D hD => ?_⟩⟩
    have nD : D ≠ k := (ne_of_none lk hD).symm
    have lp : (plc rs).length ≤ 101 := by unfold plc names; rw [List.length_cons, List.length_map]; omega
    refine dc_walk (walk_keys (d := k) (o := od) (kvs := kvG rs v)) (fun i H' => Same Hl H' ∧ H' D = some (.dK (((plc rs).take i).map fun z => ((.inr z : Key), V.bl ((fun a b => a && !b) (v z) (w' z)))))) ⟨Same.new hD, upd_same⟩ (fun i H' _ m => m.1 _ _ lk) ?_ ?_
    · rintro i x H5x H5 hi ⟨s5, hD5⟩ ⟨rfl, k', v', hk, rfl⟩
      obtain ⟨z, rfl, hz⟩ := kvG_at hk
      have hzm := List.mem_of_getElem? hz
      have dg1 : DGet H5 k (.str z) (some (.bl (v z))) := .inl ⟨_, .inr z, .inr ⟨od, s5 _ _ lk⟩, rfl, (valV_kvG v hzm).symm⟩
      have dg2 : DGet H5 k2 (.str z) (some (.bl (w' z))) := .inl ⟨_, .inr z, rd2.imp (s5 _ _) (fun ⟨o, e⟩ => ⟨o, s5 _ _ e⟩), rfl, (valV_kvG w' hzm).symm⟩
      refine ⟨rfl, tYes_if ⟨_, rfl, _, rfl, m, CM, dx, _, _, rfl, s5 _ _ l1, M.cl, M.nk, mf_k _ _ _ _, _, rfl, k, _, rfl, dg1, _, rfl, ?_⟩⟩
      have e9 : ∀ b : Bool, b = (v z && !(w' z)) → (upd H5 D (.dK (putK (((plc rs).take i).map fun z => ((.inr z : Key), V.bl (v z && !(w' z)))) (.inr z) (.bl b)))) D = some (.dK (((plc rs).take (i + 1)).map fun z => ((.inr z : Key), V.bl (v z && !(w' z))))) := fun b e => by
        rw [upd_same, e, ← kvP_more (plc_nodup hv) (fun z => v z && !(w' z)) hz]
      refine ite2 (fun hc => ?_) (fun hc => ?_)
      · refine ⟨_, rfl, m2, CM, dx2, _, _, rfl, s5 _ _ l2, M.cl, M.nk, mf_k _ _ _ _, _, rfl, k2, _, rfl, dg2, _, rfl, ?_⟩
        refine ⟨_, .inr z, rfl, hD5, small1000 (by rw [List.length_map, List.length_take]; omega), fun b o eb => by
          rw [upd_ne (fun y => by rw [y, hD] at eb; cases eb)]
          exact s5 _ _ eb, e9 _ (by rw [hc]; rfl)⟩
      · have hc' : v z = false := by simpa using hc
        refine ⟨_, .inr z, rfl, hD5, small1000 (by rw [List.length_map, List.length_take]; omega), fun b o eb => by
          rw [upd_ne (fun y => by rw [y, hD] at eb; cases eb)]
          exact s5 _ _ eb, e9 false (by rw [hc']; rfl)⟩
    rintro H5 ⟨s5, hD5⟩
    rw [kvG_len, List.take_length] at hD5
    refine ⟨s5 _ _ lk, ?_⟩
    have bk := back s5
    refine ⟨t, D, rs, fun z => (fun a b => a && !b) (v z) (w' z), rfl, hm.turns.tree.same bk, by rw [upd_ne nD]; exact hD5, fun r hr q => ?_, fun m3 H6 s6 hm3 => hq m3 H6 (bk.trans s6) hm3⟩
    show (fun a b => a && !b) (v r.nm) (w' r.nm) = (fun a b => a && !b) (v r.fo) (w' r.fo)
    rw [hm.lk r hr q, hm2.lk r hr q]
theorem sc_M_invert : FnScope ["self"] ["self"] (defScope s_Meaning_invert) := ⟨rfl, rfl, rfl, by decide +kernel, rfl, by decide +kernel, by decide +kernel⟩
theorem ok_M_invert {fM f : Addr} {fdM fd : FuncData} (F : Fun K "__invert__" "Meaning.__invert__" s_Meaning_invert f fd) (M : TxM K mg CM)
    (MM : Mk K CM fM) (bM : Binds K fdM ["self", "tree", "default", "turns"] []) (GM : FnOk P w K mg base CX0 7 fM fdM ["self", "tree", "default", "turns"] (spMeaningInit K C CM)) : FnOk P w K mg base CX0 9 f fd ["self"] (spInv C CM) := by
  refine F.ok sc_M_invert (fun vs H Q E h => ?_) (fun cdv A outer s H vs Q E hr h => ?_)
  · obtain ⟨m, t, rs, v, rfl, _⟩ := h
    rfl
  · obtain ⟨m, t, rs, v, rfl, hm, hq⟩ := h
    have hv := hm.valid
    obtain ⟨dx, u, k, h1, h2, h3⟩ := hm.turns.ex
    refine ⟨_, pss_one (ps_ret (pe_make MM GM hr rfl M.g bM .nil pass0 (pa_cons (pe_fld (pv 0) rfl) (pa_cons (pe_not (pe_fld (pv 0) rfl)) (pa_cons (pe_fld (pv 0) rfl) pa_nil))))), ?_⟩
    refine ⟨_, rfl, m, CM, dx, _, _, rfl, h1, M.cl, M.nt, mf_t _ _ _ _, _, rfl, m, CM, dx, _, _, rfl, h1, M.cl, M.nd, mf_d _ _ _ _, _, rfl, _, rfl, m, CM, dx, _, _, rfl, h1, M.cl, M.nu, mf_u _ _ _ _, ?_⟩
    refine fun m3 dm nm nd _ => ⟨m3, dm, t, u, !(v "top"), turnsG rs v, rs, rfl, upd_same, hm.turns.tree.same (mk_same0 nm nd), SqX.same (.inr (sqT h2)) (mk_same0 nm nd), hm.free, fun H4 sb4 hm4 => ⟨rfl, ?_⟩⟩
    rw [turnsL_sub hv (turnsG_sub rs v)] at hm4
    refine hq m3 H4 (mk_same nm nd sb4) ⟨⟨_, _, hm4, fun z hz => ?_⟩, fun r hr q => ?_⟩
    · show turned (!(v "top")) (turnsG rs v) (wayOf rs z) = !(v z)
      rw [turned_not, ← val_turnsG hv v z hz]
      rfl
    · show (!(v r.nm)) = !(v r.fo)
      rw [hm.lk r hr q]
end
end Ts

set_option maxRecDepth 100000
set_option maxHeartbeats 4000000
namespace Ts
open PySem L2
/-! ### ranges of numbers -/
structure Rg where
  lo : Int
  hi : Option Int
def Rg.ok (g : Rg) : Prop := 0 ≤ g.lo ∧ ∀ h, g.hi = some h → g.lo ≤ h
def rgV (g : Rg) : List V := [.int g.lo, prV g.hi]
def noI : Rg := ⟨0, some 0⟩
def oneI : Rg := ⟨1, some 1⟩
def anyI : Rg := ⟨0, none⟩
structure TxQ (K : PySem.W.Frag) (mg : Str → Option Value) where
  noA : Addr
  no : mg "NO_ITEMS" = some (.ref noA)
  noT : ∀ H, SqT K H noA (rgV noI)
  oneA : Addr
  one : mg "ONE_ITEM" = some (.ref oneA)
  oneT : ∀ H, SqT K H oneA (rgV oneI)
  anyA : Addr
  any : mg "ANY_ITEMS" = some (.ref anyA)
  anyT : ∀ H, SqT K H anyA (rgV anyI)
  item : ∃ t, mg "ITEM" = some (.str "item" t)
  shut : ∃ t, mg "SHUT" = some (.str "shut" t)
/-- a dict of ranges: its keys, and what lies behind each -/
def RgsAt (H : Hp) (d : Addr) (L : List Str) (g : Str → Rg) : Prop := ∃ ad : Str → Addr, H d = some (.dK (kvX (fun z => .ref (ad z)) L)) ∧ ∀ z ∈ L, Seq H (ad z) (rgV (g z))
theorem RgsAt.same {H H' : Hp} {d : Addr} {L : List Str} {g : Str → Rg} (h : RgsAt H d L g) (s : Same H H') : RgsAt H' d L g := let ⟨ad, h1, h2⟩ := h; ⟨ad, s _ _ h1, fun z hz => (h2 z hz).same s⟩
/-- the numbers that a place is by itself -/
def pairR (rs : List Row) (L : List Str) (g : Str → Rg) (z : Str) : Rg := match rowOf rs z with
  | some r => if r.ki = ("shut" : Str) then (if z ∈ L then g z else anyI) else if r.ki = ("item" : Str) then oneI else noI
  | none => noI
def PrsAt (K : PySem.W.Frag) (H : Hp) (k : Addr) (l : List Str) (pr : Str → Rg) : Prop := ∃ ad : Str → Addr, H k = some (.dK (kvX (fun z => .ref (ad z)) l)) ∧ ∀ z ∈ l, SqT K H (ad z) (rgV (pr z))
theorem sqT_same {K : PySem.W.Frag} {H H' : Hp} {a : Addr} {xs : List V} (h : SqT K H a xs) (s : Same H H') : SqT K H' a xs := by
  rcases h with (h | ⟨o, h⟩) | h
  · exact .inl (.inl (s _ _ h))
  · exact .inl (.inr ⟨o, s _ _ h⟩)
  · exact .inr h
theorem PrsAt.same {K : PySem.W.Frag} {H H' : Hp} {d : Addr} {L : List Str} {g : Str → Rg} (h : PrsAt K H d L g) (s : Same H H') : PrsAt K H' d L g := let ⟨ad, h1, h2⟩ := h; ⟨ad, s _ _ h1, fun z hz => sqT_same (h2 z hz) s⟩
def cf (t k : Addr) : List (Str × V) := putF "pairs" (.ref k) (putF "tree" (.ref t) [])
structure CntAt (K : PySem.W.Frag) (C CC : Addr) (H : Hp) (c t : Addr) (rs : List Row) (pr : Str → Rg) : Prop where
  ex : ∃ dx k, H c = some (.ins CC dx (cf t k)) ∧ PrsAt K H k (plc rs) pr
  tree : TreeAt C H t rs
theorem CntAt.same {K : PySem.W.Frag} {C CC : Addr} {H H' : Hp} {c t : Addr} {rs : List Row} {pr : Str → Rg} (h : CntAt K C CC H c t rs pr) (s : Same H H') : CntAt K C CC H' c t rs pr := let ⟨⟨dx, k, h1, h2⟩, ht⟩ := h; ⟨⟨dx, k, s _ _ h1, h2.same s⟩, ht.same s⟩
theorem rowOf_in {rs : List Row} {z : Str} {r : Row} (h : rowOf rs z = some r) : z ∈ names rs := by
  have h1 := List.mem_of_find?_eq_some h
  have h2 := List.find?_some h
  exact List.mem_map.mpr ⟨r, h1, of_decide_eq_true h2⟩
theorem same_sb {H H' : Hp} {D : Addr} (hD : H D = none) (s : SB D H H') : Same H H' := fun b o e => s b o (ne_of_none e hD) e
theorem sqT_upd {K : PySem.W.Frag} {H : Hp} {D a : Addr} {kvs : List (Key × V)} {o : HO} {xs : List V} (h : SqT K H a xs) (hD : H D = some (.dK kvs)) : SqT K (upd H D o) a xs := by
  have n : ∀ {u : HO}, H a = some u → (∀ m, u ≠ .dK m) → a ≠ D := fun {u} e hu q => by
    rw [q, hD] at e
    exact hu _ (Option.some.inj e).symm
  rcases h with (h | ⟨o', h⟩) | h
  · exact .inl (.inl (by rw [upd_ne (n h (fun _ e => nomatch e))]; exact h))
  · exact .inl (.inr ⟨o', by rw [upd_ne (n h (fun _ e => nomatch e))]; exact h⟩)
  · exact .inr h
theorem kvX_put {f : Str → V} {l : List Str} {z : Str} {v : V} (hn : z ∉ l) : putK (kvX f l) (.inr z) v = kvX (fun y => if y = z then v else f y) (l ++ [z]) := by
  have hv : valV (kvX f l) (.inr z : Key) = none := by
    induction l with
    | nil => rfl
    | cons x m ih =>
      show valV (((.inr x : Key), f x) :: kvX f m) _ = _
      rw [valV_neg (fun q => hn (by rw [Sum.inr.inj q]; exact List.mem_cons_self ..))]
      exact ih fun q => hn (List.mem_cons_of_mem _ q)
  rw [putK_new _ hv]
  unfold kvX
  rw [List.map_append]
  have e1 : l.map (fun y => ((.inr y : Key), if y = z then v else f y)) = l.map fun y => ((.inr y : Key), f y) := List.map_congr_left fun y hy => by
    rw [if_neg (fun q => hn (by rw [← q]; exact hy))]
  rw [e1]
  simp
theorem valV_kvX_none {f : Str → V} {z : Str} {l : List Str} (hn : z ∉ l) : valV (kvX f l) (.inr z : Key) = none := by
  induction l with
  | nil => rfl
  | cons x m ih =>
    show valV (((.inr x : Key), f x) :: kvX f m) _ = _
    rw [valV_neg (fun q => hn (by rw [Sum.inr.inj q]; exact List.mem_cons_self ..))]
    exact ih fun q => hn (List.mem_cons_of_mem _ q)
def spIsRange : Sp := fun vs H Q _ => ∃ (a : Addr) (q : Rg), vs = [.ref a] ∧ Seq H a (rgV q) ∧ q.ok ∧ ∀ H', Same H H' → Q (.bl true) H'
def spCheckRg (C : Addr) : Sp := fun vs H Q _ => ∃ (t d : Addr) (rs : List Row) (L : List Str) (g : Str → Rg), vs = [.ref t, .ref d] ∧ TreeAt C H t rs ∧ RgsAt H d L g ∧ (∀ z ∈ L, (g z).ok ∧ ∃ r, rowOf rs z = some r ∧ r.ki = ("shut" : Str)) ∧ ∀ H', Same H H' → Q .non H'
def spRangesOf (K : PySem.W.Frag) (C : Addr) : Sp := fun vs H Q _ => ∃ (t d : Addr) (rs : List Row) (L : List Str) (g : Str → Rg), vs = [.ref t, .ref d] ∧ TreeAt C H t rs ∧ RgsAt H d L g ∧ L.length ≤ 100 ∧
  ∀ D H', H D = none → Same H H' → PrsAt K H' D (plc rs) (pairR rs L g) → Q (.ref D) H'
/-- a dict of references that is locked is none of a tree's -/
theorem TreeAt.lockR {C : Addr} {H : Hp} {t d : Addr} {rs : List Row} {ad : Str → Addr} {L : List Str} {o : HO} (h : TreeAt C H t rs) (hd : H d = some (.dK (kvX (fun z => V.ref (ad z)) L))) (hl : L ≠ []) : TreeAt C (upd H d o) t rs := by
  obtain ⟨dx, q, f, k, p, qs, h1, h2, h3, h4, h5, h6⟩ := h.ex
  have n1 : ∀ {b : Addr} {u : HO}, H b = some u → (∀ m, u ≠ .dK m) → b ≠ d := fun {b u} hb hu q => by
    rw [q, hd] at hb
    exact hu _ (Option.some.inj hb).symm
  have n2 : ∀ {b : Addr} (g : Row → V), H b = some (.dK (kvF g rs)) → (∀ r x, g r ≠ V.ref x) → b ≠ d := fun {b} g hb hg q => by
    rw [q, hd] at hb
    have e := HO.dK.inj (Option.some.inj hb)
    cases L with
    | nil => exact hl rfl
    | cons z L =>
      cases rs with
      | nil => cases e
      | cons r rs =>
        have e2 := congrArg (fun l => l.head?) e
        have e3 := (Prod.mk.inj (Option.some.inj e2)).2
        exact hg r _ e3.symm
  have np : ∀ (r : Row) (x : Addr), prV r.pr ≠ V.ref x := fun r x => by cases r.pr <;> exact fun e => nomatch e
  exact ⟨⟨dx, q, f, k, p, qs, by rw [upd_ne (n1 h1 (fun _ e => nomatch e))]; exact h1, by rw [upd_ne (n1 h2 (fun _ e => nomatch e))]; exact h2, ⟨h3.len, fun i b r hb hr => by rw [upd_ne (n1 (h3.at_ i b r hb hr) (fun _ e => nomatch e))]; exact h3.at_ i b r hb hr⟩, by rw [upd_ne (n2 _ h4 (fun _ _ e => nomatch e))]; exact h4, by rw [upd_ne (n2 _ h5 (fun _ _ e => nomatch e))]; exact h5, by rw [upd_ne (n2 _ h6 np)]; exact h6⟩, h.val, h.len⟩
section
variable {P : Program} {w : World} {K : PySem.W.Frag} {mg : Str → Option Value} {base : Heap} {C : Addr}
abbrev nIsRange : List Str := ["thing", "least", "most"]
theorem sc_is_range : FnScope nIsRange ["thing"] (defScope s_is_range) := ⟨rfl, rfl, rfl, by decide +kernel, rfl, by decide +kernel, by decide +kernel⟩
theorem ok_is_range (D : DefAt K mg "is_range" s_is_range ["thing"]) (B : TxB mg) (TC : TxC K mg) : FnOk P w K mg base CX0 2 D.f D.fd ["thing"] spIsRange := by
  have Gn : FnOk P w K mg base CX0 1 TC.num.f TC.num.fd ["thing", "least"] spIsNumber := ok_is_number TC.num B
  refine D.F.ok sc_is_range (fun vs H Q E h => ?_) (fun cdv A outer s H vs Q E hr h => ?_)
  · obtain ⟨a, q, rfl, _⟩ := h
    rfl
  · obtain ⟨a, q, rfl, ha, ⟨hq0, hq1⟩, hq⟩ := h
    refine ⟨_, pss_cons (ps_if (PW.pt (pw_or (pt_not (pt_val (pe_callB call_isiT (by rfl) B.isinstance (by decide +kernel) (pa_cons (pv 0) (pa_cons (pe_tup (pa_cons (pe_bltn (by rfl) B.list (by decide +kernel) (v := .ty "list") rfl) (pa_cons (pe_bltn (by rfl) B.tuple (by decide +kernel) (v := .ty "tuple") rfl) pa_nil))) pa_nil)))))
        (pw_or1 (pt_cmpR op_ne (pe_callB call_len_seq (by rfl) B.len PySem.boot_len (pa_cons (pv 0) pa_nil)) pe_int (nomark _))))) (pss_one (ps_ret pe_bl)) pss_nil)
      (C8.pss_cut (ps_asg (pv 0) (pg_or (pg_tup rfl (pgs_cons (pg_name (i := 1) sc_is_range.nd rfl (.inl rfl)) (pgs_cons (pg_name (i := 2) sc_is_range.nd rfl (.inl rfl)) pgs_nil)))
          (pg_unl rfl (pgs_cons (pg_name (i := 1) sc_is_range.nd rfl (.inl rfl)) (pgs_cons (pg_name (i := 2) sc_is_range.nd rfl (.inl rfl)) pgs_nil)))))
      (pss_one (ps_ret (pe_and (pe_call Gn hr rfl TC.num.g TC.num.F.kp TC.num.b .nil pass0 (pa_cons (pv 1) (pa_cons pe_int pa_nil))) (pe_one (pe_or (pe_cmpR op_isN (pv 2) pe_non (nomark _)) (pe_one (pe_call Gn hr rfl TC.num.g TC.num.F.kp TC.num.b .nil pass0 (pa_cons (pv 2) (pa_cons (pv 1) pa_nil))))))))))
      , ?_⟩
    refine ⟨_, rfl, (by show 2 ≤ sizeLine; decide), fun tp htp => ?_⟩
    have s1 : Same H (upd H tp (.tup [.ty "list", .ty "tuple"])) := Same.new htp
    obtain ⟨t, ty, kk⟩ := (ha.same s1).ty (K := K)
    refine ⟨_, tp, _, t, _, true, rfl, upd_same, .cons (.ty "list") (.cons (.ty "tuple") .nil), ty, kk, _, rfl, iteF ?_⟩
    refine ⟨_, rfl, a, _, rfl, (ha.same s1).or, rfl, _, rfl, ?_⟩
    refine iteF ?_
    have un : SqT K (upd H tp (.tup [.ty "list", .ty "tuple"])) a (rgV q) ∨ SqL K (upd H tp (.tup [.ty "list", .ty "tuple"])) a (rgV q) := (ha.same s1).or.symm
    refine ⟨fun σ' H' => σ' = [some (.ref a), some (.int q.lo), some (prV q.hi)] ∧ H' = upd H tp (.tup [.ty "list", .ty "tuple"]), ?_, ?_⟩
    · refine ⟨_, rfl, ?_⟩
      rcases un with un | un
      · exact .inl ⟨a, _, rfl, un, rfl, _, _, rfl, _, _, rfl, rfl, rfl, rfl⟩
      · exact .inr ⟨a, _, rfl, un, rfl, _, _, rfl, _, _, rfl, rfl, rfl, rfl⟩
    rintro σ' H' ⟨rfl, rfl⟩
    refine ⟨_, rfl, q.lo, 0, rfl, ?_⟩
    rw [decide_eq_true hq0]
    refine ⟨_, rfl, iteT ?_⟩
    refine ⟨_, rfl, rfl, _, rfl, ?_⟩
    cases e : q.hi with
    | none => exact iteT (hq _ s1)
    | some h =>
      refine iteF' (decide_eq_false (fun e => by cases e)) ⟨_, rfl, _, rfl, h, q.lo, rfl, ?_⟩
      rw [decide_eq_true (hq1 h e)]
      exact hq _ s1
abbrev nCheckRg : List Str := ["tree", "ranges", "box", "pair"]
theorem sc_check_ranges : FnScope nCheckRg ["tree", "ranges"] (defScope s_check_ranges) := ⟨rfl, rfl, rfl, by decide +kernel, rfl, by decide +kernel, by decide +kernel⟩
theorem kvX_at {f : Str → V} {l : List Str} {i : Nat} {kv : Key × V} (h : (kvX f l)[i]? = some kv) : ∃ z, kv = (.inr z, f z) ∧ l[i]? = some z := by
  unfold kvX at h
  rw [List.getElem?_map] at h
  obtain ⟨z, hz, e⟩ := Option.map_eq_some_iff.mp h
  exact ⟨z, e.symm, hz⟩
theorem ok_check_ranges (D : DefAt K mg "check_ranges" s_check_ranges ["tree", "ranges"]) (B : TxB mg) (TC : TxC K mg) (T : TxT K mg C) (TQ : TxQ K mg)
    (M : MethAt K C "__contains__" "Tree.__contains__" s_Tree_contains ["self", "x"]) (mK : MethAt K C "kind" "Tree.kind" s_Tree_kind ["self", "box"]) (GK : FnOk P w K mg base CX0 4 mK.f mK.fd ["self", "box"] (spGet C fun r => .str r.ki))
    (Dr : DefAt K mg "is_range" s_is_range ["thing"]) : FnOk P w K mg base CX0 5 D.f D.fd ["tree", "ranges"] (spCheckRg C) := by
  have Gr : FnOk P w K mg base CX0 2 Dr.f Dr.fd ["thing"] spIsRange := ok_is_range Dr B TC
  have G : FnOk P w K mg base CX0 2 M.f M.fd ["self", "x"] (spContains K C) := ok_Tree_contains M.F B T
  obtain ⟨t3, gS⟩ := TQ.shut
  refine D.F.ok sc_check_ranges (fun vs H Q E h => ?_) (fun cdv A outer s H vs Q E hr h => ?_)
  · obtain ⟨t, d, rs, L, g, rfl, _⟩ := h
    rfl
  · obtain ⟨t, d, rs, L, g, rfl, ht, ⟨ad, hd, hg⟩, hok, hq⟩ := h
    have r2 : Room 2 _ := hr.mono (by decide)
    refine ⟨_, pss_one (ps_lock (ps_for PassesOwn.never rfl (pi_items (pv 1)) (pg_tup rfl (pgs_cons (pg_name (i := 2) sc_check_ranges.nd rfl (.inl rfl)) (pgs_cons (pg_name (i := 3) sc_check_ranges.nd rfl (.inl rfl)) pgs_nil)))
        (pss_one (ps_if (PW.pt (pw_or (pt_cmpR (op_notinC G M.m r2 M.b pass0) (pv 2) (pv 0) (by rfl)) (pw_or (pt_cmpR op_ne (pe_meth (pv 0) T.cl mK.m GK hr mK.b .nil pass0 (pa_cons (pv 2) pa_nil)) (pe_glob (by rfl) gS (v := .str ("shut" : Str)) ⟨_, rfl⟩) (nomark _)) (pw_or1 (pt_not (pt_val (pe_call Gr r2 rfl Dr.g Dr.F.kp Dr.b .nil pass0 (pa_cons (pv 3) pa_nil)))))))) (pss_one ps_never) pss_nil)))), ?_⟩
    refine ⟨d, _, hd, trivial, fun od => ?_⟩
    obtain ⟨Hl, El⟩ : ∃ Hx, Hx = upd H d (.frz od (.dK (kvX (fun z => V.ref (ad z)) L))) := ⟨_, rfl⟩
    have lk : Hl d = some (.frz od (.dK (kvX (fun z => V.ref (ad z)) L))) := by rw [El]; exact upd_same
    have keep : ∀ b o, H b = some o → b ≠ d → Hl b = some o := fun b o e n => by rw [El, upd_ne n]; exact e
    have back : ∀ H', Same Hl H' → Same H (upd H' d (.dK (kvX (fun z => V.ref (ad z)) L))) := fun H' s b o e => by
      by_cases q : b = d
      · rw [q, upd_same, ← e, q]; exact hd.symm
      · rw [upd_ne q]; exact s _ _ (keep b o e q)
    have tl : L ≠ [] → TreeAt C Hl t rs := fun h => by rw [El]; exact ht.lockR hd h
    rw [← El]
    clear El
    refine ⟨_, rfl, d, od, _, rfl, lk, ?_⟩
    refine for_it (walk_items (d := d) (o := od) (kvs := kvX (fun z => V.ref (ad z)) L)) (fun i σ H' => ∃ v1 v2 : Option V, σ = [some (.ref t), some (.ref d), v1, v2] ∧ Same Hl H') ⟨none, none, rfl, Same.refl _⟩ (fun i σ H' _ ⟨_, _, _, s⟩ => s _ _ lk) ?_ ?_
    · rintro i x σ H2 H3 hi ⟨v1, v2, rfl, s2⟩ ⟨Tq, kx, vx, rfl, hT, rfl, hkx, hvx⟩
      rw [Option.map_eq_some_iff] at hkx hvx
      obtain ⟨⟨k', v'⟩, hk, rfl⟩ := hkx
      obtain ⟨⟨k'', v''⟩, hk2, rfl⟩ := hvx
      rw [hk] at hk2
      cases Option.some.inj hk2
      obtain ⟨z, ez, hz⟩ := kvX_at hk
      cases ez
      have hzm := List.mem_of_getElem? hz
      obtain ⟨hzok, r, hro, hki⟩ := hok z hzm
      have sT : Same H2 (upd H2 Tq (.tup [V.str z, V.ref (ad z)])) := Same.new hT
      have eT : (upd H2 Tq (.tup [V.str z, V.ref (ad z)])) Tq = some (.tup [V.str z, V.ref (ad z)]) := upd_same
      show gTup K 2 _ _ _ (upd H2 Tq (.tup [V.str z, V.ref (ad z)])) _
      generalize upd H2 Tq (.tup [V.str z, V.ref (ad z)]) = H4 at sT eT
      have s4 := s2.trans sT
      have ht4 := (tl (fun e => by rw [e] at hzm; cases hzm)).same s4
      obtain ⟨dx, q, f, k, p, qs, h1, _⟩ := id ht4.ex
      have noK : (tf q f k p).lookup ("kind" : Str) = none := tf_no _ _ _ _ (by decide +kernel) (by decide +kernel) (by decide +kernel) (by decide +kernel)
      have sq : Seq H4 (ad z) (rgV (g z)) := by
        have h0 := hg z hzm
        have nd : ad z ≠ d := fun e => by rw [e] at h0; rcases h0 with h0 | h0 <;> (rw [hd] at h0; cases h0)
        exact (show Seq Hl (ad z) (rgV (g z)) from h0.imp (fun h => keep _ _ h nd) (fun h => keep _ _ h nd)).same s4
      have hzn : z ∈ names rs := by
        exact rowOf_in hro
      refine ⟨Tq, _, rfl, sqT eT, rfl, _, _, rfl, _, _, rfl, rfl, ?_⟩
      refine ⟨_, rfl, _, rfl, t, dx, _, rfl, h1, t, _, rs, rfl, ht4, .inl ⟨z, rfl, _, rfl, _, rfl, ?_⟩⟩
      rw [decide_eq_true hzn]
      refine iteF ⟨_, rfl, t, dx, _, rfl, h1, noK, _, rfl, t, z, rs, r, rfl, ht4, hro, rfl, _, rfl, ?_⟩
      refine iteF' (by simp [hki]) ⟨_, rfl, ad z, g z, rfl, sq, hzok, fun H5 s5 => ⟨_, rfl, iteF ⟨_, _, rfl, s4.trans s5⟩⟩⟩
    · rintro σ H2 ⟨v1, v2, rfl, s2⟩
      exact ⟨s2 _ _ lk, hq _ (back _ s2)⟩
abbrev nRangesOf : List Str := ["tree", "ranges", "found", "box"]
theorem sc_ranges_of : FnScope nRangesOf ["tree", "ranges"] (defScope s_ranges_of) := ⟨rfl, rfl, rfl, by decide +kernel, rfl, by decide +kernel, by decide +kernel⟩
theorem ok_ranges_of (D : DefAt K mg "ranges_of" s_ranges_of ["tree", "ranges"]) (B : TxB mg) (TC : TxC K mg) (T : TxT K mg C) (TQ : TxQ K mg)
    (mB : MethAt K C "below" "Tree.below" s_Tree_below ["self", "box"]) (GB : FnOk P w K mg base CX0 5 mB.f mB.fd ["self", "box"] (spListOf C belowL))
    (mK : MethAt K C "kind" "Tree.kind" s_Tree_kind ["self", "box"]) (GK : FnOk P w K mg base CX0 4 mK.f mK.fd ["self", "box"] (spGet C fun r => .str r.ki)) : FnOk P w K mg base CX0 6 D.f D.fd ["tree", "ranges"] (spRangesOf K C) := by
  obtain ⟨t1, gT⟩ := TC.top
  obtain ⟨t2, gI⟩ := TQ.item
  obtain ⟨t3, gS⟩ := TQ.shut
  refine D.F.ok sc_ranges_of (fun vs H Q E h => ?_) (fun cdv A outer s H vs Q E hr h => ?_)
  · obtain ⟨t, d, rs, L, g, rfl, _⟩ := h
    rfl
  · obtain ⟨t, d, rs, L, g, rfl, ht, hRg, hL, hq⟩ := h
    have hu := hu_of hr
    have r4 : Room 4 _ := hr.mono (by decide)
    refine ⟨_, pss_cons (ps_set (i := 2) sc_ranges_of.nd rfl (.inl rfl) (pe_disp (pps_cons (pe_glob (by rfl) gT (v := .str ("top" : Str)) ⟨_, rfl⟩) (pe_glob (by rfl) TQ.no (v := .ref TQ.noA) rfl) pps_nil) (by rfl) (by rfl) (fun z => by cases z) (by decide)))
      (pss_cons (ps_for PassesOwn.never rfl (pi_list (pe_meth (pv 0) T.cl mB.m GB hr mB.b .nil pass0 (pa_cons (pe_glob (by rfl) gT (v := .str ("top" : Str)) ⟨_, rfl⟩) pa_nil))) (pg_name (i := 3) sc_ranges_of.nd rfl (.inl rfl))
        (pss_one (ps_if (pt_cmpR op_eq (pe_meth (pv 0) T.cl mK.m GK r4 mK.b .nil pass0 (pa_cons (pv 3) pa_nil)) (pe_glob (by rfl) gS (v := .str ("shut" : Str)) ⟨_, rfl⟩) (nomark _))
          (pss_one (ps_dput hu (pv 2) (pv 3) (pe_callTy (T := "tuple") call_tuple_of (by rfl) B.tuple (by decide +kernel) (pa_cons (pe_dget2 hu (pv 1) (pv 3) (pe_glob (by rfl) TQ.any (v := .ref TQ.anyA) rfl) (by constructor <;> intros <;> rfl)) pa_nil)) rfl))
          (pss_one (ps_dput hu (pv 2) (pv 3) (pe_ifExp (pt_cmpR op_eq (pe_meth (pv 0) T.cl mK.m GK r4 mK.b .nil pass0 (pa_cons (pv 3) pa_nil)) (pe_glob (by rfl) gI (v := .str ("item" : Str)) ⟨_, rfl⟩) (nomark _)) (pe_glob (by rfl) TQ.one (v := .ref TQ.oneA) rfl) (pe_glob (by rfl) TQ.no (v := .ref TQ.noA) rfl)) rfl)))))
      (pss_one (ps_ret (pv 2)))), ?_⟩
    have hv := ht.val
    have l100 := ht.len
    obtain ⟨dx, q, f, k, p, qs, h1, _⟩ := id ht.ex
    have noB : (tf q f k p).lookup ("below" : Str) = none := tf_no _ _ _ _ (by decide +kernel) (by decide +kernel) (by decide +kernel) (by decide +kernel)
    have noK : (tf q f k p).lookup ("kind" : Str) = none := tf_no _ _ _ _ (by decide +kernel) (by decide +kernel) (by decide +kernel) (by decide +kernel)
    refine fun wd hwd => ⟨upd_same, [(.inr ("top" : Str), .ref TQ.noA)], rfl, (by show 1 ≤ 15; decide), ?_⟩
    have sA : Same H (upd (upd H wd (.dK [])) wd (.dK (mergeK [] [(.inr ("top" : Str), .ref TQ.noA)]))) := fun b o e => by
      rw [upd_ne (ne_of_none e hwd), upd_ne (ne_of_none e hwd)]; exact e
    have eA : (upd (upd H wd (.dK [])) wd (.dK (mergeK [] [(.inr ("top" : Str), .ref TQ.noA)]))) wd = some (.dK (kvX (fun _ => V.ref TQ.noA) ["top"])) := upd_same
    generalize upd (upd H wd (.dK [])) wd (.dK (mergeK [] [(.inr ("top" : Str), .ref TQ.noA)])) = H1 at sA eA
    refine ⟨_, rfl, t, dx, _, rfl, sA _ _ h1, noB, t, ("top" : Str), rs, rfl, ht.same sA, .inl rfl, fun bl H2 hbl s2 e2 => ?_⟩
    rw [below_top hv] at e2
    have nbw : bl ≠ wd := fun e => by rw [← e, hbl] at eA; cases eA
    have sB : SB wd H H2 := SB.of (sA.trans s2)
    have ptop : pairR rs L g "top" = noI := by
      unfold pairR
      rw [show rowOf rs ("top" : Str) = none from by
        cases e : rowOf rs ("top" : Str) with
        | none => rfl
        | some r => exact absurd (rowOf_in e) (top_not hv)]
    refine ⟨bl, rfl, ⟨_, SqL.of e2⟩, ?_⟩
    refine for_list (K := K) (a := bl) (xs := (names rs).map V.str) (fun i σ H' => ∃ v : Option V, σ = [some (.ref t), some (.ref d), some (.ref wd), v] ∧ SB wd H2 H' ∧ PrsAt K H' wd ("top" :: names (rs.take i)) (pairR rs L g)) ⟨_, rfl, SB.refl _ _, ⟨fun _ => TQ.noA, s2 _ _ eA, fun z hz => ?_⟩⟩ (fun i σ H' _ ⟨_, _, sb, _⟩ => SqL.of (sb _ _ nbw e2)) ?_ ?_
    · rw [List.mem_singleton.mp (show z ∈ [("top" : Str)] from hz), ptop]
      exact TQ.noT _
    · rintro i x σ H3 hx ⟨v, rfl, sb, ad, hw, hp⟩
      unfold names at hx
      rw [List.getElem?_map, List.getElem?_map] at hx
      obtain ⟨n1, hn1, rfl⟩ := Option.map_eq_some_iff.mp hx
      obtain ⟨r, hr', rfl⟩ := Option.map_eq_some_iff.mp hn1
      have ro := rowOf_at hv hr'
      have s3 : Same H H3 := same_sb hwd (sB.trans sb)
      have t3 := ht.same s3
      have hRg3 := hRg.same s3
      have fit := hv i r hr'
      have hnew : r.nm ∉ ("top" : Str) :: names (rs.take i) := fun h => by
        rcases List.mem_cons.mp h with h | h
        · exact fit.top h
        · exact fit.new h
      have put : ∀ (a : Addr) (G : Hp), Same H3 G → SqT K G a (rgV (pairR rs L g r.nm)) → ∃ (a_1 : Addr) (H4 : Hp), V.ref wd = V.ref a_1 ∧ DPut G a_1 (.str r.nm) (.ref a) H4 ∧ ∃ v : Option V, [some (V.ref t), some (.ref d), some (.ref wd), some (.str r.nm)] = [some (V.ref t), some (.ref d), some (.ref wd), v] ∧ SB wd H2 H4 ∧ PrsAt K H4 wd ("top" :: names (rs.take (i + 1))) (pairR rs L g) := by
        intro a G s ha
        have hwG := s _ _ hw
        refine ⟨wd, _, rfl, DPut.k (k := Sum.inr r.nm) hwG (small1000 (by unfold kvX names; rw [List.length_map, List.length_cons, List.length_map, List.length_take]; omega)), _, rfl, fun b o nb e => by rw [upd_ne nb]; exact s _ _ (sb b o nb e), fun y => if y = r.nm then a else ad y, ?_, fun y hy => ?_⟩
        · rw [upd_same, kvX_put hnew]
          have el : (("top" : Str) :: names (rs.take i)) ++ [r.nm] = ("top" : Str) :: names (rs.take (i + 1)) := by unfold names; rw [take_more hr', List.map_append]; rfl
          rw [el]
          congr 3
          funext y
          by_cases e : y = r.nm
          · simp [e]
          · simp [e]
        · by_cases e : y = r.nm
          · show SqT K _ (if y = r.nm then a else ad y) _
            rw [if_pos e, e]
            exact sqT_upd ha hwG
          · show SqT K _ (if y = r.nm then a else ad y) _
            rw [if_neg e]
            refine sqT_upd (sqT_same (hp y ?_) s) hwG
            rcases List.mem_cons.mp hy with h | h
            · rw [h]; exact List.mem_cons_self ..
            · unfold names at h
              rw [take_more hr', List.map_append] at h
              rcases List.mem_append.mp h with h | h
              · exact List.mem_cons_of_mem _ h
              · exact absurd (List.mem_singleton.mp h) e
      have epr : pairR rs L g r.nm = if r.ki = ("shut" : Str) then (if r.nm ∈ L then g r.nm else anyI) else if r.ki = ("item" : Str) then oneI else noI := by
        unfold pairR
        rw [ro]
      refine ⟨_, rfl, t, dx, _, rfl, s3 _ _ h1, noK, _, rfl, t, r.nm, rs, r, rfl, t3, ro, rfl, _, rfl, ?_⟩
      by_cases hk : r.ki = ("shut" : Str)
      · rw [decide_eq_true (congrArg V.str hk)]
        rw [if_pos hk] at epr
        obtain ⟨ad0, hd3, hg3⟩ := hRg3
        refine iteT ⟨_, rfl, d, rfl, .inl ⟨_, .inl hd3⟩, _, rfl, _, DGet.k (k := Sum.inr r.nm) hd3, ?_⟩
        by_cases hm : r.nm ∈ L
        · rw [valV_kvX _ hm]
          rw [if_pos hm] at epr
          have hs := hg3 _ hm
          rw [← epr] at hs
          refine ⟨ad0 r.nm, rgV (pairR rs L g r.nm), rfl, ?_⟩
          rcases hs with hs | hs
          · exact .inr ⟨sqT hs, _, rfl, _, rfl, put _ _ (Same.refl _) (sqT hs)⟩
          · exact .inl ⟨SqL.of hs, fun l hl => ⟨_, rfl, _, rfl, put _ _ (Same.new hl) (sqT upd_same)⟩⟩
        · rw [valV_kvX_none hm]
          rw [if_neg hm] at epr
          refine ⟨TQ.anyA, _, rfl, .inr ⟨TQ.anyT _, _, rfl, _, rfl, put _ _ (Same.refl _) ?_⟩⟩
          rw [epr]
          exact TQ.anyT _
      · rw [decide_eq_false (fun e => hk (V.str.inj e))]
        rw [if_neg hk] at epr
        refine iteF ⟨_, rfl, t, dx, _, rfl, s3 _ _ h1, noK, _, rfl, t, r.nm, rs, r, rfl, t3, ro, rfl, _, rfl, ?_⟩
        by_cases hi : r.ki = ("item" : Str)
        · rw [decide_eq_true (congrArg V.str hi)]
          rw [if_pos hi] at epr
          refine iteT ⟨_, rfl, _, rfl, put _ _ (Same.refl _) ?_⟩
          rw [epr]
          exact TQ.oneT _
        · rw [decide_eq_false (fun e => hi (V.str.inj e))]
          rw [if_neg hi] at epr
          refine iteF ⟨_, rfl, _, rfl, put _ _ (Same.refl _) ?_⟩
          rw [epr]
          exact TQ.noT _
    · rintro σ H3 ⟨v, rfl, sb, hp⟩
      rw [show ((names rs).map V.str).length = rs.length from by unfold names; rw [List.length_map, List.length_map], List.take_length] at hp
      exact ⟨_, rfl, hq wd H3 hwd (same_sb hwd (sB.trans sb)) hp⟩
end
end Ts

set_option maxRecDepth 100000
set_option maxHeartbeats 4000000
namespace Ts
open PySem L2
theorem walk_in {J : It} {n : Nat} {G : Hp → Prop} {Y : Nat → Hp → V → Hp → Prop} (wk : Walk J n G Y) {B : V → Hp → (Hp → Prop) → Prop} {Dn : Hp → Prop} {H0 : Hp} (I : Nat → Hp → Prop) (start : I 0 H0) (stays : ∀ i H, i ≤ n → I i H → G H)
    (turn : ∀ i x H H', i < n → I i H → Y i H x H' → B x H' (I (i + 1))) (done : ∀ H, I n H → Dn H) :
    ∃ W : Nat → Nat → Hp → Prop, (∃ m, W 0 m H0) ∧ ∀ i m H, W i m H → (J.stop i H ∧ Dn H) ∨ (J.go i H ∧ ∃ Nx : Hp → Prop, (∀ H', Nx H' → ∃ m', m' < m ∧ W (i + 1) m' H') ∧ ∀ x H', J.yld i H x H' → B x H' Nx) := by
  refine ⟨fun i m H => m = n - i ∧ i ≤ n ∧ I i H, ⟨n, by simp, Nat.zero_le _, start⟩, ?_⟩
  rintro i m H ⟨rfl, hi, here⟩
  have ok := stays i H hi here
  rcases Nat.lt_or_ge i n with lt | ge
  · exact .inr ⟨wk.goes i H lt ok, I (i + 1), fun H' h' => ⟨n - (i + 1), by omega, rfl, lt, h'⟩, fun x H' y => turn i x H H' lt here (wk.yields i H x H' lt ok y)⟩
  · obtain rfl : i = n := Nat.le_antisymm hi ge
    exact .inl ⟨wk.stops H ok, done H here⟩
/-! ### sums of ranges -/
def rgSum (l : List Rg) : Rg := ⟨(l.map (·.lo)).sum, if l.any (fun q => decide (q.hi = none)) then none else some ((l.map fun q => q.hi.getD 0).sum)⟩
/-- the places of a value within a place -/
def sideL (rs : List Row) (v : Str → Bool) (z : Str) (b : Bool) : List Str := (z :: belowL rs z).filter fun y => decide (v y = b)
def numW (rs : List Row) (pr : Str → Rg) (v : Str → Bool) (z : Str) (b : Bool) : Rg := rgSum ((sideL rs v z b).map pr)
theorem below_len (rs : List Row) (z : Str) : (belowL rs z).length ≤ rs.length := by
  unfold belowL
  rw [List.length_map]
  exact List.length_filter_le _ _
theorem below_names {rs : List Row} {z y : Str} (h : y ∈ belowL rs z) : y ∈ names rs := by
  obtain ⟨r, hr, rfl⟩ := List.mem_map.mp h
  exact List.mem_map.mpr ⟨r, (List.mem_filter.mp hr).1, rfl⟩
theorem filt_more {α : Type} {l : List α} {i : Nat} {x : α} (h : l[i]? = some x) (p : α → Bool) : (l.take (i + 1)).filter p = (l.take i).filter p ++ (if p x = true then [x] else []) := by
  rw [take_more h, List.filter_append]
  congr 1
  by_cases q : p x = true
  · rw [if_pos q]; simp [q]
  · rw [if_neg q]; simp [q]
theorem dec_bl (p q : Bool) : decide (V.bl p = V.bl q) = decide (p = q) := by cases p <;> cases q <;> rfl
theorem prV_non (o : Option Int) : (prV o = V.non) ↔ o = none := by cases o <;> simp [prV]
theorem inV_prs : ∀ l : List (Option Int), inV .non (l.map prV) = l.any fun o => decide (o = none) := by
  intro l
  induction l with
  | nil => rfl
  | cons o l ih =>
    rw [List.map_cons, List.any_cons, ← ih]
    cases o <;> rfl
theorem flat_prs (l : List (Option Int)) : (l.map prV).all flatV = true := by
  rw [List.all_map]
  exact List.all_eq_true.mpr fun o _ => by cases o <;> rfl
theorem prs_ints : ∀ l : List Rg, (l.any fun q => decide (q.hi = none)) = false → l.map (fun q => prV q.hi) = (l.map fun q => q.hi.getD 0).map V.int
  | [], _ => rfl
  | q :: l, h => by
    rw [List.any_cons, Bool.or_eq_false_iff] at h
    rw [List.map_cons, List.map_cons, List.map_cons, prs_ints l h.2]
    congr 1
    cases e : q.hi with
    | none => rw [e] at h; simp at h
    | some i => rfl
def mayB (g : Rg) : List Bool := (if g.lo = 0 then [false] else []) ++ (if g.hi ≠ some 0 then [true] else [])
theorem mayB_len (g : Rg) : (mayB g).length ≤ 2 := by
  unfold mayB
  rw [List.length_append]
  split <;> split <;> simp
def shownS (a b : Bool) : Str := if a && b then "part" else if a then "on" else if b then "off" else "none"
def wordsB (x y : List Bool) : List Str := (x.map fun a => y.map fun b => shownS a b).flatten
structure TxK (K : PySem.W.Frag) (mg : Str → Option Value) (CC : Addr) : Prop where
  cl : Cls K CC
  nt : NoAttr K CC "tree"
  np : NoAttr K CC "pairs"
  g : mg "Counts" = some (.ref CC)
structure TxS (mg : Str → Option Value) : Prop where
  part : ∃ t, mg "PART" = some (.str "part" t)
  none_ : ∃ t, mg "NONE" = some (.str "none" t)
  on : ∃ t, mg "ON" = some (.str "on" t)
  off : ∃ t, mg "OFF" = some (.str "off" t)
def HasT (K : PySem.W.Frag) (H : Hp) (x t : Addr) : Prop := ∃ (C2 dx : Addr) (fs : List (Str × V)), H x = some (.ins C2 dx fs) ∧ Cls K C2 ∧ NoAttr K C2 "tree" ∧ fs.lookup ("tree" : Str) = some (V.ref t)
def Near (K : PySem.W.Frag) (C : Addr) (H : Hp) (x y : Addr) : Prop := ∃ (t1 t2 : Addr) (rs : List Row), HasT K H x t1 ∧ HasT K H y t2 ∧ TreeAt C H t1 rs ∧ TreeAt C H t2 rs
theorem MV.has {K : PySem.W.Frag} {mg : Str → Option Value} {C CM : Addr} {H : Hp} {m t : Addr} {rs : List Row} {v : Str → Bool} (h : MV C CM H m t rs v) (M : TxM K mg CM) : HasT K H m t := by
  obtain ⟨dx, u, k, h1, _⟩ := h.turns.ex
  exact ⟨CM, dx, _, h1, M.cl, M.nt, mf_t _ _ _ _⟩
theorem cf_t (t k : Addr) : (cf t k).lookup ("tree" : Str) = some (V.ref t) := by unfold cf; rfl
theorem cf_p (t k : Addr) : (cf t k).lookup ("pairs" : Str) = some (V.ref k) := by unfold cf; rfl
theorem CntAt.has {K : PySem.W.Frag} {mg : Str → Option Value} {C CC : Addr} {H : Hp} {c t : Addr} {rs : List Row} {pr : Str → Rg} (h : CntAt K C CC H c t rs pr) (TK : TxK K mg CC) : HasT K H c t := by
  obtain ⟨dx, k, h1, _⟩ := h.ex
  exact ⟨CC, dx, _, h1, TK.cl, TK.nt, cf_t _ _⟩
/-- counts and a meaning of trees that are alike, and a place -/
structure CMZ (K : PySem.W.Frag) (C CM CC : Addr) (H : Hp) (c m : Addr) (rs : List Row) (pr : Str → Rg) (v : Str → Bool) : Prop where
  ex : ∃ t t2 : Addr, CntAt K C CC H c t rs pr ∧ MV C CM H m t2 rs v
theorem CMZ.same {K : PySem.W.Frag} {C CM CC : Addr} {H H' : Hp} {c m : Addr} {rs : List Row} {pr : Str → Rg} {v : Str → Bool} (h : CMZ K C CM CC H c m rs pr v) (s : Same H H') : CMZ K C CM CC H' c m rs pr v := let ⟨t, t2, h1, h2⟩ := h.ex; ⟨⟨t, t2, h1.same s, h2.same s⟩⟩
def spTreesN (K : PySem.W.Frag) (C : Addr) : Sp := fun vs H Q _ => ∃ x y : Addr, vs = [.ref x, .ref y] ∧ Near K C H x y ∧ Q .non H
def spCountsInit (K : PySem.W.Frag) (C CC : Addr) : Sp := fun vs H Q _ => ∃ (c dx t d : Addr) (rs : List Row) (L : List Str) (g : Str → Rg), vs = [.ref c, .ref t, .ref d] ∧ H c = some (.ins CC dx []) ∧ TreeAt C H t rs ∧ RgsAt H d L g ∧ L.length ≤ 100 ∧ (∀ z ∈ L, (g z).ok ∧ ∃ r, rowOf rs z = some r ∧ r.ki = ("shut" : Str)) ∧
  ∀ H', SB c H H' → CntAt K C CC H' c t rs (pairR rs L g) → Q .non H'
def spNum (K : PySem.W.Frag) (C CM CC : Addr) : Sp := fun vs H Q _ => ∃ (c m : Addr) (z : Str) (b : Bool) (rs : List Row) (pr : Str → Rg) (v : Str → Bool), vs = [.ref c, .ref m, .str z, .bl b] ∧ CMZ K C CM CC H c m rs pr v ∧ z ∈ plc rs ∧
  ∀ a H', Same H H' → SqT K H' a (rgV (rgSum ((sideL rs v z b).map pr))) → Q (.ref a) H'
def spSide (K : PySem.W.Frag) (C CM CC : Addr) (b : Bool) : Sp := fun vs H Q _ => ∃ (c m : Addr) (z : Str) (rs : List Row) (pr : Str → Rg) (v : Str → Bool), vs = [.ref c, .ref m, .str z] ∧ CMZ K C CM CC H c m rs pr v ∧ z ∈ plc rs ∧
  ∀ a H', Same H H' → SqT K H' a (rgV (numW rs pr v z b)) → Q (.ref a) H'
def spMay (K : PySem.W.Frag) : Sp := fun vs H Q _ => ∃ (a : Addr) (g : Rg), vs = [.ref a] ∧ SqT K H a (rgV g) ∧ ∀ D H', H D = none → Same H H' → H' D = some (.lst ((mayB g).map V.bl)) → Q (.ref D) H'
def spShown : Sp := fun vs H Q _ => ∃ a b : Bool, vs = [.bl a, .bl b] ∧ Q (.str (shownS a b)) H
def spShows (K : PySem.W.Frag) (C CM CC : Addr) : Sp := fun vs H Q _ => ∃ (c m : Addr) (z : Str) (rs : List Row) (pr : Str → Rg) (v : Str → Bool), vs = [.ref c, .ref m, .str z] ∧ CMZ K C CM CC H c m rs pr v ∧ z ∈ plc rs ∧
  ∀ D H' (ws : List Str), H D = none → Same H H' → H' D = some (.lst (ws.map V.str)) → ws.Perm (wordsB (mayB (numW rs pr v z true)) (mayB (numW rs pr v z false))) → PyProof.Rows.sortedS ws = true → Q (.ref D) H'
section
variable {P : Program} {w : World} {K : PySem.W.Frag} {mg : Str → Option Value} {base : Heap} {C CM CC : Addr}
theorem ok_treesN (D : DefAt K mg "check_trees" s_check_trees ["one", "other"]) (N : TxN K C)
    (mE : MethAt K C "__eq__" "Tree.__eq__" s_Tree_eq ["self", "other"]) (GE : FnOk P w K mg base CX0 2 mE.f mE.fd ["self", "other"] (spEqT K C)) : FnOk P w K mg base CX0 4 D.f D.fd ["one", "other"] (spTreesN K C) := by
  refine D.F.ok sc_check_trees (fun vs H Q E h => ?_) (fun cdv A outer s H vs Q E hr h => ?_)
  · obtain ⟨x, y, rfl, _⟩ := h
    rfl
  · obtain ⟨x, y, rfl, ⟨t1, t2, rs, ⟨C1, d1, fs1, h1, c1, n1, k1⟩, ⟨C2, d2, fs2, h2, c2, n2, k2⟩, ht1, ht2⟩, hq⟩ := h
    obtain ⟨tdx, _, _, _, _, _, e1, _⟩ := id ht1.ex
    obtain ⟨tdx2, _, _, _, _, _, e3, _⟩ := id ht2.ex
    refine ⟨_, pss_one (ps_if (pt_cmpR (op_neC GE mE.m N.ne N.ob (hr.mono (by decide)) mE.b pass0) (pe_fld (pv 0) rfl) (pe_fld (pv 1) rfl) (nomark _)) (pss_one ps_never) pss_nil), ?_⟩
    refine ⟨_, rfl, x, C1, d1, _, _, rfl, h1, c1, n1, k1, _, rfl, y, C2, d2, _, _, rfl, h2, c2, n2, k2, t1, tdx, _, .ref C, rfl, e1, .ins e3, nfC, t1, _, rs, rfl, ht1, .inl ⟨t2, rs, rfl, ht2, _, rfl, _, rfl, ?_⟩⟩
    exact iteF' (by simp) hq
abbrev nCountsInit : List Str := ["self", "tree", "ranges", "told"]
theorem sc_Counts_init : FnScope nCountsInit ["self", "tree", "ranges"] (defScope s_Counts_init) := ⟨rfl, rfl, rfl, by decide +kernel, rfl, by decide +kernel, by decide +kernel⟩
theorem ok_Counts_init {f : Addr} {fd : FuncData} {dvs : List V} (F : FunD K "__init__" "Counts.__init__" (defArgs s_Counts_init) (defBody s_Counts_init) (defScope s_Counts_init) dvs [] f fd) (TK : TxK K mg CC)
    (Dc : DefAt K mg "check_ranges" s_check_ranges ["tree", "ranges"]) (Gc : FnOk P w K mg base CX0 5 Dc.f Dc.fd ["tree", "ranges"] (spCheckRg C))
    (Do : DefAt K mg "ranges_of" s_ranges_of ["tree", "ranges"]) (Go : FnOk P w K mg base CX0 6 Do.f Do.fd ["tree", "ranges"] (spRangesOf K C)) : FnOk P w K mg base CX0 7 f fd ["self", "tree", "ranges"] (spCountsInit K C CC) := by
  refine F.ok sc_Counts_init (fun vs H Q E h => ?_) (fun cdv A outer s H vs Q E hr h => ?_)
  · obtain ⟨c, dx, t, d, rs, L, g, rfl, _⟩ := h
    rfl
  · obtain ⟨c, dx, t, d, rs, L, g, rfl, hc, ht, hRg, hl, hok, hq⟩ := h
    have r5 : Room 5 _ := hr.mono (by decide)
    refine ⟨_, pss_cons (ps_set (i := 3) sc_Counts_init.nd rfl (.inl rfl) (pe_ifExp (pt_cmpR op_isN (pv 2) pe_non (nomark _)) pe_dnewK (pv 2)))
      (pss_cons (ps_expr (pe_call Gc r5 rfl Dc.g Dc.F.kp Dc.b .nil pass0 (pa_cons (pv 1) (pa_cons (pv 3) pa_nil))))
      (pss_cons (ps_fld (pv 0) (pv 1) rfl)
      (pss_one (ps_fld (pv 0) (pe_call Go hr rfl Do.g Do.F.kp Do.b .nil pass0 (pa_cons (pv 1) (pa_cons (pv 3) pa_nil))) rfl)))), ?_⟩
    refine ⟨_, rfl, rfl, _, rfl, iteF' (decide_eq_false (fun e => by cases e)) ⟨_, rfl, ?_⟩⟩
    refine ⟨_, rfl, _, rfl, t, d, rs, L, g, rfl, ht, hRg, hok, fun H1 s1 => ?_⟩
    refine ⟨_, rfl, _, rfl, c, CC, dx, _, rfl, s1 _ _ hc, TK.cl, TK.nt, (by show 0 < 1000; decide), ?_⟩
    have sb2 : SB c H (upd H1 c (.ins CC dx (putF "tree" (.ref t) []))) := fun b o nb e => by rw [upd_ne nb]; exact s1 _ _ e
    have c2 : (upd H1 c (.ins CC dx (putF "tree" (.ref t) []))) c = some (.ins CC dx (putF "tree" (.ref t) [])) := upd_same
    generalize upd H1 c (.ins CC dx (putF "tree" (.ref t) [])) = H2 at sb2 c2
    have ht2 : TreeAt C H2 t rs := ht.sbm hc sb2
    have rg2 : RgsAt H2 d L g := by
      obtain ⟨ad, h1, h2⟩ := hRg
      refine ⟨ad, sb2 _ _ (fun e => by rw [e, hc] at h1; cases h1) h1, fun z hz => ?_⟩
      have h3 := h2 z hz
      have nc : ad z ≠ c := fun e => by rw [e] at h3; rcases h3 with h3 | h3 <;> (rw [hc] at h3; cases h3)
      exact h3.imp (sb2 _ _ nc) (sb2 _ _ nc)
    refine ⟨_, rfl, _, rfl, t, d, rs, L, g, rfl, ht2, rg2, hl, fun D H3 hD s3 hp => ?_⟩
    refine ⟨_, rfl, c, CC, dx, _, rfl, s3 _ _ c2, TK.cl, TK.np, (Nat.lt_of_le_of_lt (putF_len _ _ _) (by decide)), ?_⟩
    have sb4 : SB c H (upd H3 c (.ins CC dx (cf t D))) := fun b o nb e => by rw [upd_ne nb]; exact s3 _ _ (sb2 b o nb e)
    have nDc : D ≠ c := fun e => by rw [e, c2] at hD; cases hD
    refine hq _ sb4 ⟨⟨dx, D, upd_same, ?_⟩, ht.sbm hc sb4⟩
    obtain ⟨ad, h1, h2⟩ := hp
    refine ⟨ad, by rw [upd_ne nDc]; exact h1, fun z hz => ?_⟩
    have h4 := h2 z hz
    have c3 := s3 _ _ c2
    rcases h4 with (h | ⟨o, h⟩) | h
    · exact .inl (.inl (by rw [upd_ne (fun e => by rw [e, c3] at h; cases h)]; exact h))
    · exact .inl (.inr ⟨o, by rw [upd_ne (fun e => by rw [e, c3] at h; cases h)]; exact h⟩)
    · exact .inr h
abbrev nShown : List Str := ["has_on", "has_off"]
theorem sc_shown : FnScope nShown ["has_on", "has_off"] (defScope s_shown) := ⟨rfl, rfl, rfl, by decide +kernel, rfl, by decide +kernel, by decide +kernel⟩
theorem ok_shown (D : DefAt K mg "shown" s_shown ["has_on", "has_off"]) (TS : TxS mg) : FnOk P w K mg base CX0 1 D.f D.fd ["has_on", "has_off"] spShown := by
  obtain ⟨t1, g1⟩ := TS.part
  obtain ⟨t2, g2⟩ := TS.none_
  obtain ⟨t3, g3⟩ := TS.on
  obtain ⟨t4, g4⟩ := TS.off
  refine D.F.ok sc_shown (fun vs H Q E h => ?_) (fun cdv A outer s H vs Q E hr h => ?_)
  · obtain ⟨a, b, rfl, _⟩ := h
    rfl
  · obtain ⟨a, b, rfl, hq⟩ := h
    refine ⟨_, pss_cons (ps_if (PW.pt (pw_and (pt_val (pv 0)) (pw_and1 (pt_val (pv 1))))) (pss_one (ps_ret (pe_glob (by rfl) g1 (v := .str ("part" : Str)) ⟨_, rfl⟩))) pss_nil)
      (pss_cons (ps_if (pt_val (pv 0)) (pss_one (ps_ret (pe_glob (by rfl) g3 (v := .str ("on" : Str)) ⟨_, rfl⟩))) pss_nil)
      (pss_one (ps_ret (pe_ifExp (pt_val (pv 1)) (pe_glob (by rfl) g4 (v := .str ("off" : Str)) ⟨_, rfl⟩) (pe_glob (by rfl) g2 (v := .str ("none" : Str)) ⟨_, rfl⟩))))), ?_⟩
    cases a
    · cases b
      · exact ⟨_, rfl, _, rfl, iteF ⟨_, rfl, _, rfl, iteF ⟨_, rfl, _, rfl, iteF hq⟩⟩⟩
      · exact ⟨_, rfl, _, rfl, iteF ⟨_, rfl, _, rfl, iteF ⟨_, rfl, _, rfl, iteT hq⟩⟩⟩
    · cases b
      · exact ⟨_, rfl, _, rfl, iteT ⟨_, rfl, _, rfl, iteF ⟨_, rfl, _, rfl, iteT hq⟩⟩⟩
      · exact ⟨_, rfl, _, rfl, iteT ⟨_, rfl, _, rfl, iteT hq⟩⟩
abbrev nMay : List Str := ["number", "least", "most"]
theorem sc_may : FnScope nMay ["number"] (defScope s_may_have) := ⟨rfl, rfl, rfl, by decide +kernel, rfl, by decide +kernel, by decide +kernel⟩
theorem ok_may (D : DefAt K mg "may_have" s_may_have ["number"]) : FnOk P w K mg base CX0 1 D.f D.fd ["number"] (spMay K) := by
  refine D.F.ok sc_may (fun vs H Q E h => ?_) (fun cdv A outer s H vs Q E hr h => ?_)
  · obtain ⟨a, g, rfl, _⟩ := h
    rfl
  · obtain ⟨a, g, rfl, ha, hq⟩ := h
    refine ⟨_, pss_cons (ps_asg (pv 0) (pg_tup rfl (pgs_cons (pg_name (i := 1) sc_may.nd rfl (.inl rfl)) (pgs_cons (pg_name (i := 2) sc_may.nd rfl (.inl rfl)) pgs_nil))))
      (pss_one (ps_ret (pe_op op_cat (pe_ifExp (pt_cmpR op_eq (pv 1) pe_int (nomark _)) (pe_lst (pa_cons pe_bl pa_nil)) (pe_lst pa_nil)) (pe_ifExp (pt_cmpR op_ne (pv 2) pe_int (nomark _)) (pe_lst (pa_cons pe_bl pa_nil)) (pe_lst pa_nil))))), ?_⟩
    refine ⟨_, rfl, a, _, rfl, ha, rfl, _, _, rfl, _, _, rfl, rfl, ?_⟩
    have fin : ∀ (l l2 : Addr) (xs ys : List Bool) (H2 : Hp), Same H H2 → H2 l = some (.lst (xs.map V.bl)) → H2 l2 = some (.lst (ys.map V.bl)) → xs ++ ys = mayB g → xs.length + ys.length ≤ 2 → rCat (.ref l) (.ref l2) H2 Q := by
      intro l l2 xs ys H2 s2 e1 e2 ex hl
      refine ⟨l, l2, _, _, rfl, rfl, e1, e2, szl (by rw [List.length_map, List.length_map]; omega), fun p hp => ?_⟩
      refine hq p _ (s2.free hp) (s2.trans (Same.new hp)) ?_
      rw [upd_same, ← List.map_append, ex]
    have two : ∀ (l : Addr) (xs : List Bool) (H1 : Hp), Same H H1 → H1 l = some (.lst (xs.map V.bl)) → xs = (if g.lo = 0 then [false] else []) → ∀ l2, H1 l2 = none → ∀ ys, ys = (if g.hi ≠ some 0 then [true] else []) → rCat (.ref l) (.ref l2) (upd H1 l2 (.lst (ys.map V.bl))) Q := by
      intro l xs H1 s1 e1 ex l2 h2 ys ey
      refine fin l l2 xs ys _ (s1.trans (Same.new h2)) ((Same.new h2) _ _ e1) upd_same (by rw [ex, ey]; rfl) ?_
      rw [ex, ey]
      split <;> split <;> simp
    have sc : scal (prV g.hi) (.int 0) = true := by cases g.hi <;> rfl
    have dh : (!decide (prV g.hi = V.int 0)) = decide (g.hi ≠ some 0) := by
      cases e : g.hi with
      | none => simp [prV]
      | some i =>
        by_cases q : i = 0
        · subst q; simp [prV]
        · simp [prV, q]
    refine ⟨_, rfl, rfl, _, rfl, ?_⟩
    by_cases h0 : g.lo = 0
    · rw [decide_eq_true (congrArg V.int h0)]
      refine iteT ⟨(by show 1 ≤ sizeLine; decide), fun l hl => ?_⟩
      refine ⟨_, rfl, sc, _, rfl, ?_⟩
      rw [dh]
      refine ite2 (fun h => ⟨(by show 1 ≤ sizeLine; decide), fun l2 hl2 => ?_⟩) (fun h => ⟨(by show 0 ≤ sizeLine; decide), fun l2 hl2 => ?_⟩)
      · exact two l [false] _ (Same.new hl) upd_same (by rw [if_pos h0]) l2 hl2 [true] (by rw [if_pos (of_decide_eq_true h)])
      · exact two l [false] _ (Same.new hl) upd_same (by rw [if_pos h0]) l2 hl2 [] (by rw [if_neg (fun q => h (decide_eq_true q))])
    · rw [decide_eq_false (fun q => h0 (V.int.inj q))]
      refine iteF ⟨(by show 0 ≤ sizeLine; decide), fun l hl => ?_⟩
      refine ⟨_, rfl, sc, _, rfl, ?_⟩
      rw [dh]
      refine ite2 (fun h => ⟨(by show 1 ≤ sizeLine; decide), fun l2 hl2 => ?_⟩) (fun h => ⟨(by show 0 ≤ sizeLine; decide), fun l2 hl2 => ?_⟩)
      · exact two l [] _ (Same.new hl) upd_same (by rw [if_neg h0]) l2 hl2 [true] (by rw [if_pos (of_decide_eq_true h)])
      · exact two l [] _ (Same.new hl) upd_same (by rw [if_neg h0]) l2 hl2 [] (by rw [if_neg (fun q => h (decide_eq_true q))])
abbrev nNum : List Str := ["counts", "meaning", "box", "value", "pairs", "mosts", "place", "least", "most"]
theorem sc_num : FnScope nNum ["counts", "meaning", "box", "value"] (defScope s_number_within) := ⟨rfl, rfl, rfl, by decide +kernel, rfl, by decide +kernel, by decide +kernel⟩
theorem ok_num (D : DefAt K mg "number_within" s_number_within ["counts", "meaning", "box", "value"]) (hS : mg "sum" = none) (T : TxT K mg C) (M : TxM K mg CM) (TK : TxK K mg CC)
    (Dt : DefAt K mg "check_trees" s_check_trees ["one", "other"]) (Gt : FnOk P w K mg base CX0 4 Dt.f Dt.fd ["one", "other"] (spTreesN K C))
    (Dp : DefAt K mg "check_place" s_check_place ["tree", "thing"]) (Gp : FnOk P w K mg base CX0 4 Dp.f Dp.fd ["tree", "thing"] (spPlace C))
    (mB : MethAt K C "below" "Tree.below" s_Tree_below ["self", "box"]) (GB : FnOk P w K mg base CX0 5 mB.f mB.fd ["self", "box"] (spListOf C belowL))
    (mV : MethAt K CM "value" "Meaning.value" s_Meaning_value ["self", "box"]) (GV : FnOk P w K mg base CX0 5 mV.f mV.fd ["self", "box"] (spMValue C CM)) :
    FnOk P w K mg base CX0 6 D.f D.fd ["counts", "meaning", "box", "value"] (spNum K C CM CC) := by
  refine D.F.ok sc_num (fun vs H Q E h => ?_) (fun cdv A outer s H vs Q E hr h => ?_)
  · obtain ⟨c, m, z, b, rs, pr, v, rfl, _⟩ := h
    rfl
  · obtain ⟨c, m, z, b, rs, pr, v, rfl, hcm, hz, hq⟩ := h
    have hu := hu_of hr
    have r4 : Room 4 _ := hr.mono (by decide)
    obtain ⟨t, t2, hc, hm⟩ := id hcm.ex
    obtain ⟨dx, k, h1, ad, h2, h3⟩ := id hc.ex
    obtain ⟨tdx, tq, tfo, tk, tp, tqs, g1, _⟩ := id hc.tree.ex
    obtain ⟨mdx, mu, mk, m1, _⟩ := id hm.turns.ex
    have hv := hc.tree.val
    have l100 := hc.tree.len
    have noB : (tf tq tfo tk tp).lookup ("below" : Str) = none := tf_no _ _ _ _ (by decide +kernel) (by decide +kernel) (by decide +kernel) (by decide +kernel)
    have noV : (mf t2 mu mk (v "top")).lookup ("value" : Str) = none := by rfl
    refine ⟨_, pss_cons (ps_expr (pe_call Gt r4 rfl Dt.g Dt.F.kp Dt.b .nil pass0 (pa_cons (pv 0) (pa_cons (pv 1) pa_nil))))
      (pss_cons (ps_expr (pe_call Gp r4 rfl Dp.g Dp.F.kp Dp.b .nil pass0 (pa_cons (pe_fld (pv 0) rfl) (pa_cons (pv 2) pa_nil))))
      (pss_cons (ps_setLc (i := 4) (own := [("place", 6)]) (g := gName 6) (tt := tTest (tOp rEq (tMeth CM "value" (spMValue C CM) [] E0 (tVar 1) (tCons (tVar 6) tNil)) (tVar 3))) (te := tDGet (tFld K (tVar 0) "pairs") (tVar 6)) rfl sc_num.nd rfl rfl (sw_true rfl rfl rfl (by decide +kernel)) (pi_list (pe_op op_cat (pe_lst (pa_cons (pv 2) pa_nil)) (pe_meth (pe_fld (pv 0) rfl) T.cl mB.m GB hr mB.b .nil pass0 (pa_cons (pv 2) pa_nil)))) (blkOk_by (N := nNum) (sc := defScope s_number_within) (by decide +kernel))
          (fun _ _ _ _ _ => pg_name (i := 6) sc_num.nd rfl (Or.inl rfl)) (fun _ _ _ _ _ => by exact pts_one (pt_cmpR op_eq (pe_meth (pv 1) M.cl mV.m GV hr mV.b .nil pass0 (pa_cons (pv 6) pa_nil)) (pv 3) (nomark _))) (fun _ _ _ _ _ => by exact pe_dget hu (pe_fld (pv 0) rfl) (pv 6) (fun _ _ => rfl)))
      (pss_cons (ps_setLc (i := 5) (own := [("least", 7), ("most", 8)]) (g := gTup K 2 (gCons (gName 7) (gCons (gName 8) gNil))) (tt := tYes) (te := tVar 8) rfl sc_num.nd rfl rfl (sw_true rfl rfl rfl (by decide +kernel)) (pi_list (pv 4)) (blkOk_by (N := nNum) (sc := defScope s_number_within) (by decide +kernel))
          (fun _ _ _ _ _ => by exact pg_tup rfl (pgs_cons (pg_name (i := 7) sc_num.nd rfl (Or.inl rfl)) (pgs_cons (pg_name (i := 8) sc_num.nd rfl (Or.inl rfl)) pgs_nil))) (fun _ _ _ _ _ => pts_nil) (fun _ _ _ _ _ => pv 8))
      (pss_one (ps_ret (pe_tup (pa_cons (pe_callB (cr_sum rfl) (by rfl) hS (by decide +kernel) (pa_cons (pe_lc (own := [("least", 7), ("most", 8)]) (g := gTup K 2 (gCons (gName 7) (gCons (gName 8) gNil))) (tt := tYes) (te := tVar 7) rfl sc_num.nd (pi_list (pv 4)) (blkOk_by (N := nNum) (sc := defScope s_number_within) (by decide +kernel))
          (fun _ _ _ _ _ => by exact pg_tup rfl (pgs_cons (pg_name (i := 7) sc_num.nd rfl (Or.inl rfl)) (pgs_cons (pg_name (i := 8) sc_num.nd rfl (Or.inl rfl)) pgs_nil))) (fun _ _ _ _ _ => pts_nil) (fun _ _ _ _ _ => pv 7)) pa_nil))
        (pa_cons (pe_ifExp (pt_cmpR op_in_seq pe_non (pv 5) (by rfl)) pe_non (pe_callB (cr_sum rfl) (by rfl) hS (by decide +kernel) (pa_cons (pv 5) pa_nil))) pa_nil)))))))), ?_⟩
    refine ⟨_, rfl, _, rfl, c, m, rfl, ⟨t, t2, rs, hc.has TK, hm.has M, hc.tree, hm.turns.tree⟩, ?_⟩
    refine ⟨_, rfl, c, CC, dx, _, _, rfl, h1, TK.cl, TK.nt, cf_t _ _, _, rfl, t, z, rs, rfl, hc.tree, mem_plc.mp hz, ?_⟩
    -- the places within
    refine ⟨_, rfl, (by show 1 ≤ sizeLine; decide), fun l1 hl1 => ?_⟩
    have s1 : Same H (upd H l1 (.lst [V.str z])) := Same.new hl1
    have e1 : (upd H l1 (.lst [V.str z])) l1 = some (.lst [V.str z]) := upd_same
    generalize upd H l1 (.lst [V.str z]) = H1 at s1 e1
    refine ⟨_, rfl, c, CC, dx, _, _, rfl, s1 _ _ h1, TK.cl, TK.nt, cf_t _ _, t, tdx, _, rfl, s1 _ _ g1, noB, _, rfl, t, z, rs, rfl, hc.tree.same s1, mem_plc.mp hz, fun bl H2 hbl s2 e2 => ?_⟩
    have lb : (belowL rs z).length ≤ 100 := Nat.le_trans (below_len rs z) l100
    refine ⟨l1, bl, _, _, rfl, rfl, s2 _ _ e1, e2, szl (by rw [List.length_map]; show 1 + _ ≤ 1000; omega), fun pl hpl => ?_⟩
    have s3 := (s1.trans s2).trans (Same.new (o := .lst ([V.str z] ++ (belowL rs z).map V.str)) hpl)
    have e3 : (upd H2 pl (.lst ([V.str z] ++ (belowL rs z).map V.str))) pl = some (.lst ((z :: belowL rs z).map V.str)) := upd_same
    generalize upd H2 pl (.lst ([V.str z] ++ (belowL rs z).map V.str)) = H3 at s3 e3
    have inP : ∀ y ∈ z :: belowL rs z, y ∈ plc rs := fun y hy => by
      rcases List.mem_cons.mp hy with h | h
      · rw [h]; exact hz
      · exact mem_plc.mpr (.inr (below_names h))
    refine ⟨pl, rfl, ⟨_, SqL.of e3⟩, fun D1 hD1 => ?_⟩
    refine lc_list (K := K) (a := pl) (xs := (z :: belowL rs z).map V.str) (fun i H' => Same H3 H' ∧ H' D1 = some (.lst ((((z :: belowL rs z).take i).filter fun y => decide (v y = b)).map fun y => V.ref (ad y)))) ⟨Same.new hD1, upd_same⟩ (fun i H' _ m => SqL.of (m.1 _ _ e3)) ?_ ?_
    · rintro i x H4 hx ⟨s4, e4⟩
      rw [List.getElem?_map] at hx
      obtain ⟨y, hy, rfl⟩ := Option.map_eq_some_iff.mp hx
      have hyp := inP y (List.mem_of_getElem? hy)
      have s4' := s3.trans s4
      have lt : (((z :: belowL rs z).take i).filter fun y => decide (v y = b)).length ≤ 200 := by
        have h1 := List.length_filter_le (fun y => decide (v y = b)) ((z :: belowL rs z).take i)
        rw [List.length_take, List.length_cons] at h1
        omega
      refine ⟨rfl, _, rfl, m, mdx, _, rfl, s4' _ _ m1, noV, _, rfl, m, t2, y, rs, _, _, rfl, hm.turns.same s4', mem_plc.mp hyp, _, rfl, rfl, _, rfl, ?_⟩
      rw [val_turnsG hv v y hyp, dec_bl]
      have dg : DGet H4 k (.str y) (some (.ref (ad y))) := .inl ⟨_, .inr y, .inl (s4' _ _ h2), rfl, (valV_kvX (fun z => V.ref (ad z)) hyp).symm⟩
      refine ite2 (fun hb => ?_) (fun hb => ?_)
      · refine ⟨_, rfl, c, CC, dx, _, _, rfl, s4' _ _ h1, TK.cl, TK.np, cf_p _ _, _, rfl, k, _, rfl, dg, _, e4, small1000 (by rw [List.length_map]; omega), fun o' ob eb => ?_, ?_⟩
        · rw [upd_ne (fun q => by rw [q, hD1] at eb; cases eb)]
          exact s4 _ _ eb
        · rw [upd_same, filt_more hy, if_pos hb, List.map_append]; rfl
      · refine ⟨s4, ?_⟩
        rw [filt_more hy, if_neg hb, List.append_nil]
        exact e4
    rintro H4 ⟨s4, e4⟩
    rw [List.length_map, List.take_length] at e4
    have e4' : H4 D1 = some (.lst ((sideL rs v z b).map fun y => V.ref (ad y))) := e4
    have inS : ∀ y ∈ sideL rs v z b, y ∈ plc rs := fun y hy => inP y (List.mem_filter.mp hy).1
    have lS : (sideL rs v z b).length ≤ 200 := by
      have h1 := List.length_filter_le (fun y => decide (v y = b)) (z :: belowL rs z)
      rw [List.length_cons] at h1
      unfold sideL
      omega
    have s4' := s3.trans s4
    have tup : ∀ y ∈ sideL rs v z b, ∀ H', Same H4 H' → SqT K H' (ad y) (rgV (pr y)) := fun y hy H' s => sqT_same (h3 y (inS y hy)) (s4'.trans s)
    clear e4 e3 hpl hD1 hbl hl1 e1 e2 s3 s1 s2
    generalize sideL rs v z b = S at e4' inS lS tup hq
    -- the mosts
    refine ⟨_, rfl, D1, rfl, ⟨_, SqL.of e4'⟩, fun D2 hD2 => ?_⟩
    refine lc_list (K := K) (a := D1) (xs := S.map fun y => V.ref (ad y)) (fun i H' => Same H4 H' ∧ H' D2 = some (.lst ((((S.take i).map pr).map (·.hi)).map prV))) ⟨Same.new hD2, upd_same⟩ (fun i H' _ m => SqL.of (m.1 _ _ e4')) ?_ ?_
    · rintro i x H5 hx ⟨s5, e5⟩
      rw [List.getElem?_map] at hx
      obtain ⟨y, hy, rfl⟩ := Option.map_eq_some_iff.mp hx
      refine ⟨ad y, _, rfl, tup y (List.mem_of_getElem? hy) _ s5, rfl, _, _, rfl, _, _, rfl, rfl, rfl, tYes_if ⟨_, rfl, _, e5, small1000 (by rw [List.length_map, List.length_map, List.length_map, List.length_take]; omega), fun o' ob eb => ?_, ?_⟩⟩
      · rw [upd_ne (fun q => by rw [q, hD2] at eb; cases eb)]
        exact s5 _ _ eb
      · rw [upd_same, take_more hy, List.map_append, List.map_append, List.map_append]; rfl
    rintro H5 ⟨s5, e5⟩
    rw [List.length_map, List.take_length] at e5
    -- the sum of the leasts
    refine ⟨_, rfl, D1, rfl, ⟨_, SqL.of (s5 _ _ e4')⟩, fun D3 hD3 => ?_⟩
    refine lc_list (K := K) (a := D1) (xs := S.map fun y => V.ref (ad y)) (fun i H' => Same H5 H' ∧ H' D3 = some (.lst ((((S.take i).map pr).map (·.lo)).map V.int))) ⟨Same.new hD3, upd_same⟩ (fun i H' _ m => SqL.of (m.1 _ _ (s5 _ _ e4'))) ?_ ?_
    · rintro i x H6 hx ⟨s6, e6⟩
      rw [List.getElem?_map] at hx
      obtain ⟨y, hy, rfl⟩ := Option.map_eq_some_iff.mp hx
      refine ⟨ad y, _, rfl, tup y (List.mem_of_getElem? hy) _ (s5.trans s6), rfl, _, _, rfl, _, _, rfl, rfl, rfl, tYes_if ⟨_, rfl, _, e6, small1000 (by rw [List.length_map, List.length_map, List.length_map, List.length_take]; omega), fun o' ob eb => ?_, ?_⟩⟩
      · rw [upd_ne (fun q => by rw [q, hD3] at eb; cases eb)]
        exact s6 _ _ eb
      · rw [upd_same, take_more hy, List.map_append, List.map_append, List.map_append]; rfl
    rintro H6 ⟨s6, e6⟩
    rw [List.length_map, List.take_length] at e6
    refine ⟨D3, _, rfl, SqL.of e6, ?_⟩
    have e56 := s6 _ _ e5
    have s36 : Same H H6 := (s4'.trans s5).trans s6
    refine ⟨_, rfl, D2, _, rfl, .inl (SqL.of e56), rfl, flat_prs _, _, rfl, ?_⟩
    rw [if_neg Bool.false_ne_true, inV_prs]
    have ea : ((S.map pr).map (·.hi)).any (fun o => decide (o = none)) = (S.map pr).any fun q => decide (q.hi = none) := by rw [List.any_map]; rfl
    rw [ea]
    cases en : (S.map pr).any fun q => decide (q.hi = none) with
    | true =>
      refine iteT ⟨(by show 2 ≤ sizeLine; decide), fun a ha => hq a _ (s36.trans (Same.new ha)) ?_⟩
      unfold rgSum rgV
      rw [en]
      exact sqT upd_same
    | false =>
      refine iteF ⟨_, rfl, D2, (S.map pr).map fun q => q.hi.getD 0, rfl, ?_, (by show 2 ≤ sizeLine; decide), fun a ha => hq a _ (s36.trans (Same.new ha)) ?_⟩
      · have := prs_ints (S.map pr) en
        rw [List.map_map] at e56
        rw [← this]
        exact SqL.of e56
      · unfold rgSum rgV
        rw [en]
        exact sqT upd_same
theorem sc_on : FnScope ["self", "meaning", "box"] ["self", "meaning", "box"] (defScope s_Counts_on) := ⟨rfl, rfl, rfl, by decide +kernel, rfl, by decide +kernel, by decide +kernel⟩
theorem sc_off : FnScope ["self", "meaning", "box"] ["self", "meaning", "box"] (defScope s_Counts_off) := ⟨rfl, rfl, rfl, by decide +kernel, rfl, by decide +kernel, by decide +kernel⟩
theorem ok_on {f : Addr} {fd : FuncData} (F : Fun K "on" "Counts.on" s_Counts_on f fd) (Dn : DefAt K mg "number_within" s_number_within ["counts", "meaning", "box", "value"]) (Gn : FnOk P w K mg base CX0 6 Dn.f Dn.fd ["counts", "meaning", "box", "value"] (spNum K C CM CC)) : FnOk P w K mg base CX0 7 f fd ["self", "meaning", "box"] (spSide K C CM CC true) := by
  refine F.ok sc_on (fun vs H Q E h => ?_) (fun cdv A outer s H vs Q E hr h => ?_)
  · obtain ⟨c, m, z, rs, pr, v, rfl, _⟩ := h
    rfl
  · obtain ⟨c, m, z, rs, pr, v, rfl, hcm, hz, hq⟩ := h
    refine ⟨_, pss_one (ps_ret (pe_call Gn hr rfl Dn.g Dn.F.kp Dn.b .nil pass0 (pa_cons (pv 0) (pa_cons (pv 1) (pa_cons (pv 2) (pa_cons pe_bl pa_nil)))))), ?_⟩
    exact ⟨_, rfl, _, rfl, _, rfl, c, m, z, true, rs, pr, v, rfl, hcm, hz, hq⟩
theorem ok_off {f : Addr} {fd : FuncData} (F : Fun K "off" "Counts.off" s_Counts_off f fd) (Dn : DefAt K mg "number_within" s_number_within ["counts", "meaning", "box", "value"]) (Gn : FnOk P w K mg base CX0 6 Dn.f Dn.fd ["counts", "meaning", "box", "value"] (spNum K C CM CC)) : FnOk P w K mg base CX0 7 f fd ["self", "meaning", "box"] (spSide K C CM CC false) := by
  refine F.ok sc_off (fun vs H Q E h => ?_) (fun cdv A outer s H vs Q E hr h => ?_)
  · obtain ⟨c, m, z, rs, pr, v, rfl, _⟩ := h
    rfl
  · obtain ⟨c, m, z, rs, pr, v, rfl, hcm, hz, hq⟩ := h
    refine ⟨_, pss_one (ps_ret (pe_call Gn hr rfl Dn.g Dn.F.kp Dn.b .nil pass0 (pa_cons (pv 0) (pa_cons (pv 1) (pa_cons (pv 2) (pa_cons pe_bl pa_nil)))))), ?_⟩
    exact ⟨_, rfl, _, rfl, _, rfl, c, m, z, false, rs, pr, v, rfl, hcm, hz, hq⟩
abbrev nShows : List Str := ["self", "meaning", "box", "some_on", "some_off", "has_on", "has_off"]
theorem sc_shows : FnScope nShows ["self", "meaning", "box"] (defScope s_Counts_shows) := ⟨rfl, rfl, rfl, by decide +kernel, rfl, by decide +kernel, by decide +kernel⟩
theorem ok_shows {f : Addr} {fd : FuncData} (F : Fun K "shows" "Counts.shows" s_Counts_shows f fd) (hSo : mg "sorted" = none) (TK : TxK K mg CC) (TS : TxS mg)
    (mOn : MethAt K CC "on" "Counts.on" s_Counts_on ["self", "meaning", "box"]) (GOn : FnOk P w K mg base CX0 7 mOn.f mOn.fd ["self", "meaning", "box"] (spSide K C CM CC true))
    (mOf : MethAt K CC "off" "Counts.off" s_Counts_off ["self", "meaning", "box"]) (GOf : FnOk P w K mg base CX0 7 mOf.f mOf.fd ["self", "meaning", "box"] (spSide K C CM CC false))
    (Dm : DefAt K mg "may_have" s_may_have ["number"]) (Ds : DefAt K mg "shown" s_shown ["has_on", "has_off"]) : FnOk P w K mg base CX0 8 f fd ["self", "meaning", "box"] (spShows K C CM CC) := by
  have Gm : FnOk P w K mg base CX0 1 Dm.f Dm.fd ["number"] (spMay K) := ok_may Dm
  have Gs : FnOk P w K mg base CX0 1 Ds.f Ds.fd ["has_on", "has_off"] spShown := ok_shown Ds TS
  refine F.ok sc_shows (fun vs H Q E h => ?_) (fun cdv A outer s H vs Q E hr h => ?_)
  · obtain ⟨c, m, z, rs, pr, v, rfl, _⟩ := h
    rfl
  · obtain ⟨c, m, z, rs, pr, v, rfl, hcm, hz, hq⟩ := h
    have r1 : Room 1 _ := hr.mono (by decide)
    obtain ⟨t, t2, hc, hm⟩ := id hcm.ex
    obtain ⟨dx, k, h1, _⟩ := id hc.ex
    have noN : ∀ {n : Str}, n ≠ ("tree" : Str) → n ≠ ("pairs" : Str) → (cf t k).lookup n = none := fun {n} a b => by
      unfold cf
      rw [lookup_putF, if_neg b, lookup_putF, if_neg a]
      rfl
    refine ⟨_, pss_cons (ps_asg (pe_tup (pa_cons (pe_call Gm r1 rfl Dm.g Dm.F.kp Dm.b .nil pass0 (pa_cons (pe_meth (pv 0) TK.cl mOn.m GOn hr mOn.b .nil pass0 (pa_cons (pv 1) (pa_cons (pv 2) pa_nil))) pa_nil)) (pa_cons (pe_call Gm r1 rfl Dm.g Dm.F.kp Dm.b .nil pass0 (pa_cons (pe_meth (pv 0) TK.cl mOf.m GOf hr mOf.b .nil pass0 (pa_cons (pv 1) (pa_cons (pv 2) pa_nil))) pa_nil)) pa_nil))) (pg_tup rfl (pgs_cons (pg_name (i := 3) sc_shows.nd rfl (.inl rfl)) (pgs_cons (pg_name (i := 4) sc_shows.nd rfl (.inr rfl)) pgs_nil))))
      (pss_one (ps_ret (pe_callB cr_sortedS (by rfl) hSo (by decide +kernel) (pa_cons (pe_lc2 (own := [("has_on", 5), ("has_off", 6)]) (vs1 := [6]) (g := gName 5) (tt := tYes) (wi1 := iList K (tVar 4)) (g1 := gName 6) (tt1 := tYes) (te := tCall spShown [] E0 (tCons (tVar 5) (tCons (tVar 6) tNil))) rfl sc_shows.nd (pi_list (pv 3)) (blkOk_by (N := nShows) (sc := defScope s_Counts_shows) (by decide +kernel)) (by decide)
        (fun _ _ _ _ _ => pg_name (i := 5) sc_shows.nd rfl (Or.inl rfl)) (fun _ _ _ _ _ => pts_nil) (fun _ _ _ _ _ => by exact pi_list (pv 4)) (fun _ _ _ _ _ => pg_name (i := 6) sc_shows.nd rfl (Or.inl rfl)) (fun _ _ _ _ _ => pts_nil) (fun _ _ _ _ _ => by exact pe_call Gs r1 rfl Ds.g Ds.F.kp Ds.b .nil pass0 (pa_cons (pv 5) (pa_cons (pv 6) pa_nil)))) pa_nil)))), ?_⟩
    refine ⟨_, rfl, c, dx, _, rfl, h1, noN (by decide +kernel) (by decide +kernel), _, rfl, _, rfl, c, m, z, rs, pr, v, rfl, hcm, hz, fun a1 H1 s1 ha1 => ?_⟩
    refine ⟨a1, _, rfl, ha1, fun D1 H2 hD1 s2 e2 => ?_⟩
    have s12 := s1.trans s2
    refine ⟨_, rfl, c, dx, _, rfl, s12 _ _ h1, noN (by decide +kernel) (by decide +kernel), _, rfl, _, rfl, c, m, z, rs, pr, v, rfl, hcm.same s12, hz, fun a2 H3 s3 ha2 => ?_⟩
    refine ⟨a2, _, rfl, ha2, fun D2 H4x hD2 s4x e4x => ⟨(by show 2 ≤ sizeLine; decide), fun tq htq => ⟨tq, _, rfl, sqT upd_same, rfl, _, _, rfl, _, _, rfl, rfl, ?_⟩⟩⟩
    have s4 := s4x.trans (Same.new (o := .tup [V.ref D1, V.ref D2]) htq)
    have e4 := (Same.new (o := .tup [V.ref D1, V.ref D2]) htq) _ _ e4x
    generalize upd H4x tq (.tup [V.ref D1, V.ref D2]) = H4 at s4 e4
    have s14 := (s12.trans s3).trans s4
    have e24 := (s3.trans s4) _ _ e2
    have lx := mayB_len (numW rs pr v z true)
    have ly := mayB_len (numW rs pr v z false)
    generalize mayB (numW rs pr v z true) = X at e24 hq lx
    generalize mayB (numW rs pr v z false) = Y at e4 hq ly
    refine ⟨_, rfl, D1, rfl, ⟨_, SqL.of e24⟩, fun D hD => ?_⟩
    have wl : ∀ i, (wordsB (X.take i) Y).length ≤ 4 := fun i => by
      unfold wordsB
      have : ∀ l : List Bool, ((l.map fun a => Y.map fun b => shownS a b).flatten).length = l.length * Y.length := fun l => by
        induction l with
        | nil => simp
        | cons x l ih => rw [List.map_cons, List.flatten_cons, List.length_append, ih, List.length_map, List.length_cons, Nat.add_mul, Nat.one_mul, Nat.add_comm]
      rw [this, List.length_take]
      have h1 : min i X.length ≤ 2 := by omega
      exact Nat.le_trans (Nat.mul_le_mul h1 ly) (by decide)
    refine walk_in (walk_list (K := K) (a := D1) (xs := X.map V.bl)) (fun i H' => Same H4 H' ∧ H' D = some (.lst ((wordsB (X.take i) Y).map V.str))) ⟨Same.new hD, upd_same⟩ (fun i H' _ m => SqL.of (m.1 _ _ e24)) ?_ ?_
    · rintro i x H5 H6 hi ⟨s5, e5⟩ ⟨rfl, hx⟩
      rw [List.getElem?_map] at hx
      obtain ⟨p, hp, rfl⟩ := Option.map_eq_some_iff.mp hx
      refine ⟨rfl, tYes_if ?_⟩
      refine ⟨_, rfl, D2, rfl, ⟨_, SqL.of (s5 _ _ e4)⟩, ?_⟩
      refine walk_in (walk_list (K := K) (a := D2) (xs := Y.map V.bl)) (fun j H' => Same H4 H' ∧ H' D = some (.lst ((wordsB (X.take i) Y ++ (Y.take j).map fun b => shownS p b).map V.str))) ⟨s5, by simpa using e5⟩ (fun j H' _ m => SqL.of (m.1 _ _ e4)) ?_ ?_
      · rintro j y H7 H8 hj ⟨s7, e7⟩ ⟨rfl, hy⟩
        rw [List.getElem?_map] at hy
        obtain ⟨q, hq', rfl⟩ := Option.map_eq_some_iff.mp hy
        refine ⟨rfl, tYes_if ⟨_, rfl, _, rfl, p, q, rfl, _, e7, small1000 ?_, fun o' ob eb => ?_, ?_⟩⟩
        · have := wl i
          rw [List.length_map, List.length_append, List.length_map, List.length_take]
          omega
        · rw [upd_ne (fun q => by rw [q, hD] at eb; cases eb)]
          exact s7 _ _ eb
        · rw [upd_same, take_more hq', List.map_append, List.map_append, List.map_append, List.map_append, List.append_assoc]; rfl
      · rintro H7 ⟨s7, e7⟩
        refine ⟨s7, ?_⟩
        rw [e7, List.length_map, List.take_length, take_more hp]
        unfold wordsB
        simp [List.map_append, List.flatten_append]
    rintro H5 ⟨s5, e5⟩
    rw [List.length_map, List.take_length] at e5
    have w4 := wl X.length
    rw [List.take_length] at w4
    refine ⟨D, wordsB X Y, rfl, SqL.of e5, by omega, fun ys p hp hs hpn => ?_⟩
    exact hq p _ ys ((s14.trans s5).free hpn) ((s14.trans s5).trans (Same.new hpn)) upd_same hp hs
end
end Ts

set_option maxRecDepth 100000
set_option maxHeartbeats 4000000
namespace Ts
open PySem L2
def beneathL (rs : List Row) (z : Str) : List Str := (rs.filter (under rs z)).map (·.nm)
theorem in_beneath {rs : List Row} (h : Valid rs) {z : Str} {r : Row} (hr : r ∈ rs) : decide (r.nm ∈ beneathL rs z) = under rs z r := by
  by_cases i : under rs z r = true
  · rw [i]
    exact decide_eq_true (List.mem_map.mpr ⟨r, List.mem_filter.mpr ⟨hr, i⟩, rfl⟩)
  · rw [Bool.not_eq_true] at i
    rw [i]
    refine decide_eq_false fun hm => ?_
    obtain ⟨q, hq, e⟩ := List.mem_map.mp hm
    obtain ⟨q1, q2⟩ := List.mem_filter.mp hq
    rw [names_inj h q1 hr e, i] at q2
    cases q2
def spBeneath : Sp := fun vs H Q _ => ∃ (p : Addr) (z : Str) (rs : List Row), vs = [.ref p, .str z] ∧ RowsL H p rs ∧ Valid rs ∧ rs.length ≤ 100 ∧
  ∀ D H', H D = none → Same H H' → H' D = some (.lst ((beneathL rs z).map V.str)) → Q (.ref D) H'
section
variable {P : Program} {w : World} {K : PySem.W.Frag} {mg : Str → Option Value} {base : Heap} {C : Addr}
abbrev nBeneath : List Str := ["_law_rows_here", "_law_box", "_law_row"]
theorem sc_beneath : FnScope nBeneath ["_law_rows_here", "_law_box"] (defScope s_L_beneath) := ⟨rfl, rfl, rfl, by decide +kernel, rfl, by decide +kernel, by decide +kernel⟩
theorem ok_beneath (D : DefAt K mg "_law_beneath" s_L_beneath ["_law_rows_here", "_law_box"]) (Dw : DefAt K mg "_law_way" s_L_way ["_law_rows_here", "_law_box"]) (Gw : FnOk P w K mg base CX0 2 Dw.f Dw.fd ["_law_rows_here", "_law_box"] spWay) : FnOk P w K mg base CX0 3 D.f D.fd ["_law_rows_here", "_law_box"] spBeneath := by
  refine D.F.ok sc_beneath (fun vs H Q E h => ?_) (fun cdv A outer s H vs Q E hr h => ?_)
  · obtain ⟨p, z, rs, rfl, _⟩ := h
    rfl
  · obtain ⟨p, z, rs, rfl, hL, hv, hl, hq⟩ := h
    obtain ⟨as, hp, hrows⟩ := id hL.ex
    refine ⟨_, pss_one (ps_ret (pe_lc (own := [("_law_row", 2)]) (g := gName 2) (tt := tTest (tOp (rIn K false) (tVar 1) (tCall spWay [] E0 (tCons (tVar 0) (tCons (tOp (rIxT K) (tVar 2) (tC (.int 0))) tNil))))) (te := tOp (rIxT K) (tVar 2) (tC (.int 0))) rfl sc_beneath.nd (pi_list (pv 0)) (blkOk_by (N := nBeneath) (sc := defScope s_L_beneath) (by decide +kernel))
        (fun _ _ _ _ _ => pg_name (i := 2) sc_beneath.nd rfl (Or.inl rfl)) (fun _ _ _ _ _ => by exact pts_one (pt_cmpR op_in_seq (pv 1) (pe_call Gw hr rfl Dw.g Dw.F.kp Dw.b .nil pass0 (pa_cons (pv 0) (pa_cons (pe_ix ix_tup (pv 2) pe_int (fun _ _ => rfl)) pa_nil))) (by rfl))) (fun _ _ _ _ _ => by exact pe_ix ix_tup (pv 2) pe_int (fun _ _ => rfl)))), ?_⟩
    refine ⟨_, rfl, p, rfl, ⟨_, SqL.of hp⟩, fun D hD => ?_⟩
    refine lc_list (K := K) (a := p) (xs := as.map V.ref) (fun i H' => Same H H' ∧ H' D = some (.lst ((((rs.take i).filter (under rs z)).map (·.nm)).map V.str))) ⟨Same.new hD, upd_same⟩ (fun i H' _ m => m.1.seq (SqL.of hp)) ?_ ?_
    · rintro i x H3 hx ⟨s3, hD3⟩
      obtain ⟨ra, r, rfl, hra, hr', e0⟩ := rows_at hrows hx
      have hrm := List.mem_of_getElem? hr'
      have szD : (((rs.take i).filter (under rs z)).map (·.nm)).length ≤ 1000 := by
        rw [List.length_map]
        have h1 := List.length_filter_le (under rs z) (rs.take i)
        rw [List.length_take] at h1
        omega
      refine ⟨rfl, _, rfl, _, rfl, _, rfl, ra, _, _, _, rfl, rfl, sqT (s3 _ _ e0), atI0 _ _ _ _, p, r.nm, rs, rfl, hL.same s3, hv, hl, .inr (List.mem_map.mpr ⟨r, hrm, rfl⟩), fun D4 H4 h4n s4 hD4 => ?_⟩
      refine ⟨D4, _, rfl, .inl (SqL.of hD4), rfl, flat_strs _, _, rfl, ?_⟩
      have e : (if false = true then !inV (.str z) ((wayOf rs r.nm).map V.str) else inV (.str z) ((wayOf rs r.nm).map V.str)) = under rs z r := by
        rw [if_neg Bool.false_ne_true, inV_strs]; rfl
      rw [e]
      refine ite2 (fun hi => ?_) (fun hi => ?_)
      · refine ⟨_, rfl, ra, _, _, _, rfl, rfl, sqT (s4 _ _ (s3 _ _ e0)), atI0 _ _ _ _, _, s4 _ _ hD3, by rw [List.length_map]; exact small1000 szD, fun b o eb => ?_, ?_⟩
        · rw [upd_ne (fun y => by rw [y, hD] at eb; cases eb)]
          exact s4 _ _ (s3 _ _ eb)
        · rw [upd_same, filter_take hr', if_pos hi, List.map_append]; rfl
      · refine ⟨fun b o eb => s4 _ _ (s3 _ _ eb), ?_⟩
        rw [filter_take hr', if_neg hi, List.append_nil]
        exact s4 _ _ hD3
    · rintro H3 ⟨s3, hD3⟩
      rw [List.length_map, hrows.len, List.take_length] at hD3
      exact hq D H3 hD s3 hD3
end
end Ts

set_option maxRecDepth 100000
set_option maxHeartbeats 4000000
namespace Ts
open PySem L2
/-! ### the law's own sums -/
def withinC (rs : List Row) (z : Str) : List Str := z :: belowL rs z
theorem within_nodup {rs : List Row} (hv : Valid rs) {z : Str} : (withinC rs z).Nodup := by
  refine List.nodup_cons.mpr ⟨fun h => ?_, ?_⟩
  · obtain ⟨r, hr, e⟩ := List.mem_map.mp h
    have := (List.mem_filter.mp hr).2
    unfold isIn at this
    rw [e] at this
    simp at this
  · exact List.Nodup.sublist (List.Sublist.map _ List.filter_sublist) hv.nodup
theorem within_plc {rs : List Row} {z y : Str} (hz : z ∈ plc rs) (h : y ∈ withinC rs z) : y ∈ plc rs := by
  rcases List.mem_cons.mp h with h | h
  · rw [h]; exact hz
  · exact mem_plc.mpr (.inr (below_names h))
def lawWithin (rs : List Row) (z : Str) : List Str := if z = ("top" : Str) then plc rs else beneathL rs z
theorem mem_lawWithin {rs : List Row} (hv : Valid rs) {z y : Str} (hz : z ∈ plc rs) : y ∈ lawWithin rs z ↔ y ∈ withinC rs z := by
  unfold lawWithin withinC
  by_cases e : z = ("top" : Str)
  · subst e
    rw [if_pos rfl, below_top hv]
    rfl
  · rw [if_neg e]
    have hzn : z ∈ names rs := (mem_plc.mp hz).resolve_left e
    constructor
    · intro h
      obtain ⟨r, hr, rfl⟩ := List.mem_map.mp h
      obtain ⟨h1, h2⟩ := List.mem_filter.mp hr
      have := gone_iff hv e h1
      rw [h2] at this
      exact of_decide_eq_true this
    · intro h
      have hy : y ∈ names rs := by
        rcases List.mem_cons.mp h with h | h
        · rw [h]; exact hzn
        · exact below_names h
      obtain ⟨r, hr, rfl⟩ := List.mem_map.mp hy
      have := gone_iff hv e hr
      rw [decide_eq_true h] at this
      exact List.mem_map.mpr ⟨r, List.mem_filter.mpr ⟨hr, this.symm⟩, rfl⟩
def heldP (rs : List Row) (z : Str) (r : Row) : Bool := decide (r.ki ≠ ("folder" : Str)) && decide (r.nm ∈ withinC rs z)
def heldL (rs : List Row) (z : Str) : List Str := (rs.filter (heldP rs z)).map (·.nm)
theorem sum_perm {l m : List Int} (h : l.Perm m) : l.sum = m.sum := by
  induction h with
  | nil => rfl
  | cons x _ ih => rw [List.sum_cons, List.sum_cons, ih]
  | swap x y l => simp only [List.sum_cons]; omega
  | trans _ _ h1 h2 => rw [h1, h2]
theorem rgSum_perm {l m : List Rg} (h : l.Perm m) : rgSum l = rgSum m := by
  unfold rgSum
  rw [sum_perm (h.map _), h.any_eq, sum_perm (h.map fun q => q.hi.getD 0)]
theorem rgSum_drop {pr : Str → Rg} {p : Str → Bool} : ∀ {l : List Str}, (∀ y ∈ l, p y = false → pr y = noI) → rgSum (l.map pr) = rgSum ((l.filter p).map pr) := by
  have key : ∀ l : List Str, (∀ y ∈ l, p y = false → pr y = noI) → ((l.map pr).map (·.lo)).sum = (((l.filter p).map pr).map (·.lo)).sum ∧ ((l.map pr).any fun q => decide (q.hi = none)) = (((l.filter p).map pr).any fun q => decide (q.hi = none)) ∧ ((l.map pr).map fun q => q.hi.getD 0).sum = (((l.filter p).map pr).map fun q => q.hi.getD 0).sum := by
    intro l
    induction l with
    | nil => exact fun _ => ⟨rfl, rfl, rfl⟩
    | cons y l ih =>
      intro h
      obtain ⟨h1, h2, h3⟩ := ih fun x hx => h x (List.mem_cons_of_mem _ hx)
      cases e : p y with
      | true =>
        rw [List.filter_cons_of_pos e]
        simp only [List.map_cons, List.sum_cons, List.any_cons, h1, h2, h3]
        exact ⟨trivial, trivial, trivial⟩
      | false =>
        rw [List.filter_cons_of_neg (by rw [e]; exact Bool.false_ne_true)]
        have hn := h y (List.mem_cons_self ..) e
        simp only [List.map_cons, List.sum_cons, List.any_cons, hn, noI]
        refine ⟨by rw [h1]; simp, by rw [h2]; simp, by rw [h3]; simp⟩
  intro l h
  obtain ⟨h1, h2, h3⟩ := key l h
  unfold rgSum
  rw [h1, h2, h3]
theorem held_num {rs : List Row} (hv : Valid rs) {L : List Str} {g : Str → Rg} (v : Str → Bool) {z : Str} (hz : z ∈ plc rs) (b : Bool) : rgSum (((heldL rs z).filter fun y => decide (v y = b)).map (pairR rs L g)) = numW rs (pairR rs L g) v z b := by
  unfold numW
  have hsub : ∀ y ∈ heldL rs z, y ∈ withinC rs z := fun y hy => by
    obtain ⟨r, hr, rfl⟩ := List.mem_map.mp hy
    have := (List.mem_filter.mp hr).2
    unfold heldP at this
    exact of_decide_eq_true (Bool.and_eq_true_iff.mp this).2
  rw [show sideL rs v z b = (withinC rs z).filter fun y => decide (v y = b) from rfl]
  rw [rgSum_drop (l := (withinC rs z).filter fun y => decide (v y = b)) (p := fun y => decide (y ∈ heldL rs z))]
  · refine rgSum_perm (List.Perm.map _ ?_)
    refine (List.perm_ext_iff_of_nodup ?_ ?_).mpr fun y => ?_
    · exact List.Nodup.sublist List.filter_sublist (List.Nodup.sublist (List.Sublist.map _ List.filter_sublist) hv.nodup)
    · exact List.Nodup.sublist List.filter_sublist (List.Nodup.sublist List.filter_sublist (within_nodup hv))
    · rw [List.mem_filter, List.mem_filter, List.mem_filter]
      constructor
      · rintro ⟨h1, h2⟩
        exact ⟨⟨hsub y h1, h2⟩, decide_eq_true h1⟩
      · rintro ⟨⟨_, h2⟩, h3⟩
        exact ⟨of_decide_eq_true h3, h2⟩
  · intro y hy hn
    obtain ⟨h1, _⟩ := List.mem_filter.mp hy
    unfold pairR
    cases e : rowOf rs y with
    | none => rfl
    | some r =>
      have hr := List.mem_of_find?_eq_some e
      have er : r.nm = y := by
        have h9 := List.find?_some (show rs.find? (fun q => decide (q.nm = y)) = some r from e)
        exact of_decide_eq_true h9
      have hk : r.ki = ("folder" : Str) := by
        by_cases q : r.ki = ("folder" : Str)
        · exact q
        · refine absurd ?_ (of_decide_eq_false hn)
          refine List.mem_map.mpr ⟨r, List.mem_filter.mpr ⟨hr, ?_⟩, er⟩
          unfold heldP
          rw [decide_eq_true q, er, decide_eq_true h1]
          rfl
      show (if r.ki = ("shut" : Str) then _ else _) = noI
      rw [hk, if_neg (by decide +kernel), if_neg (by decide +kernel)]
def sideB (g : Rg) : List Int := if 0 < g.lo then [1] else if g.hi = some 0 then [0] else [0, 1]
theorem sideB_may {g : Rg} (h : g.ok) : sideB g = (mayB g).map fun b => if b then 1 else 0 := by
  obtain ⟨lo, hi⟩ := g
  obtain ⟨h0, h1⟩ := h
  unfold sideB mayB
  dsimp only at h0 h1 ⊢
  by_cases e : 0 < lo
  · have n0 : ¬ lo = 0 := by omega
    have nh : hi ≠ some 0 := fun q => by have := h1 0 q; omega
    rw [if_pos e, if_neg n0, if_pos nh]; rfl
  · have e0 : lo = 0 := by omega
    rw [if_neg e, if_pos e0]
    by_cases q : hi = some 0
    · rw [if_pos q, if_neg (by simpa using q)]; rfl
    · rw [if_neg q, if_pos q]; rfl
theorem pair_ok {rs : List Row} {L : List Str} {g : Str → Rg} (h : ∀ z ∈ L, (g z).ok) (z : Str) : (pairR rs L g z).ok := by
  have k1 : noI.ok := ⟨Int.le_refl _, fun h e => by cases e; exact Int.le_refl _⟩
  have k2 : oneI.ok := ⟨by decide, fun h e => by cases e; exact Int.le_refl _⟩
  have k3 : anyI.ok := ⟨Int.le_refl _, fun h e => by cases e⟩
  unfold pairR
  cases rowOf rs z with
  | none => exact k1
  | some r =>
    show Rg.ok (if _ then _ else _)
    split
    · split
      · exact h z (by assumption)
      · exact k3
    · split
      · exact k2
      · exact k1
theorem sum_ok : ∀ {l : List Rg}, (∀ q ∈ l, q.ok) → (rgSum l).ok := by
  have key : ∀ l : List Rg, (∀ q ∈ l, q.ok) → 0 ≤ (l.map (·.lo)).sum ∧ ((l.any fun q => decide (q.hi = none)) = false → (l.map (·.lo)).sum ≤ (l.map fun q => q.hi.getD 0).sum) := by
    intro l
    induction l with
    | nil => exact fun _ => ⟨Int.le_refl _, fun _ => Int.le_refl _⟩
    | cons q l ih =>
      intro h
      obtain ⟨h1, h2⟩ := ih fun x hx => h x (List.mem_cons_of_mem _ hx)
      obtain ⟨q0, q1⟩ := h q (List.mem_cons_self ..)
      simp only [List.map_cons, List.sum_cons, List.any_cons]
      refine ⟨by omega, fun hh => ?_⟩
      rw [Bool.or_eq_false_iff] at hh
      have h3 := h2 hh.2
      cases e : q.hi with
      | none => rw [e] at hh; simp at hh
      | some i =>
        have := q1 i e
        show q.lo + _ ≤ i + _
        omega
  intro l h
  obtain ⟨h1, h2⟩ := key l h
  refine ⟨h1, fun i e => ?_⟩
  unfold rgSum at e ⊢
  dsimp only at e ⊢
  split at e
  · cases e
  · rename_i hh
    cases e
    exact h2 (by simpa using hh)
theorem may_ne {g : Rg} (h : g.ok) : mayB g ≠ [] := fun e => by
  have := sideB_may h
  rw [e] at this
  unfold sideB at this
  split at this
  · cases this
  · split at this <;> cases this
theorem words_ne {x y : List Bool} (hx : x ≠ []) (hy : y ≠ []) : wordsB x y ≠ [] := by
  cases x with
  | nil => exact absurd rfl hx
  | cons a x =>
    cases y with
    | nil => exact absurd rfl hy
    | cons b y =>
      unfold wordsB
      simp
theorem num_ok {rs : List Row} {L : List Str} {g : Str → Rg} (h : ∀ z ∈ L, (g z).ok) (v : Str → Bool) (z : Str) (b : Bool) : (numW rs (pairR rs L g) v z b).ok := by
  unfold numW
  refine sum_ok fun q hq => ?_
  obtain ⟨y, _, rfl⟩ := List.mem_map.mp hq
  exact pair_ok h y
theorem prs_put {K : PySem.W.Frag} {G : Hp} {D a : Addr} {l : List Str} {pr : Str → Rg} {ad : Str → Addr} {y : Str} (hw : G D = some (.dK (kvX (fun z => V.ref (ad z)) l))) (hp : ∀ z ∈ l, SqT K G (ad z) (rgV (pr z))) (hn : y ∉ l) (ha : SqT K G a (rgV (pr y))) :
    PrsAt K (upd G D (.dK (putK (kvX (fun z => V.ref (ad z)) l) (.inr y) (.ref a)))) D (l ++ [y]) pr := by
  refine ⟨fun u => if u = y then a else ad u, ?_, fun u hu => ?_⟩
  · rw [upd_same, kvX_put hn]
    congr 3
    funext u
    by_cases e : u = y
    · simp [e]
    · simp [e]
  · show SqT K _ (if u = y then a else ad u) _
    by_cases e : u = y
    · rw [if_pos e, e]
      exact sqT_upd ha hw
    · rw [if_neg e]
      refine sqT_upd (hp u ?_) hw
      rcases List.mem_append.mp hu with h | h
      · exact h
      · exact absurd (List.mem_singleton.mp h) e
/-- a dict of ranges that are tuples -/
def RgsT (H : Hp) (d : Addr) (L : List Str) (g : Str → Rg) : Prop := ∃ ad : Str → Addr, H d = some (.dK (kvX (fun z => .ref (ad z)) L)) ∧ ∀ z ∈ L, H (ad z) = some (.tup (rgV (g z)))
theorem RgsT.same {H H' : Hp} {d : Addr} {L : List Str} {g : Str → Rg} (h : RgsT H d L g) (s : Same H H') : RgsT H' d L g := let ⟨ad, h1, h2⟩ := h; ⟨ad, s _ _ h1, fun z hz => s _ _ (h2 z hz)⟩
theorem RgsT.at_ {H : Hp} {d : Addr} {L : List Str} {g : Str → Rg} (h : RgsT H d L g) : RgsAt H d L g := let ⟨ad, h1, h2⟩ := h; ⟨ad, h1, fun z hz => .inl (h2 z hz)⟩
def spLShown : Sp := fun vs H Q _ => ∃ i j : Int, vs = [.int i, .int j] ∧ Q (.str (shownS (decide (0 < i)) (decide (0 < j)))) H
def spLWithin : Sp := fun vs H Q _ => ∃ (p : Addr) (z : Str) (rs : List Row), vs = [.ref p, .str z] ∧ RowsL H p rs ∧ Valid rs ∧ rs.length ≤ 100 ∧ ∀ D H', H D = none → Same H H' → H' D = some (.lst ((lawWithin rs z).map V.str)) → Q (.ref D) H'
def spLHeld (K : PySem.W.Frag) : Sp := fun vs H Q _ => ∃ (p d : Addr) (z : Str) (rs : List Row) (L : List Str) (g : Str → Rg), vs = [.ref p, .ref d, .str z] ∧ RowsL H p rs ∧ Valid rs ∧ rs.length ≤ 100 ∧ RgsT H d L g ∧ z ∈ plc rs ∧
  ∀ D H', H D = none → Same H H' → PrsAt K H' D (heldL rs z) (pairR rs L g) → Q (.ref D) H'
def spLTotal (K : PySem.W.Frag) : Sp := fun vs H Q _ => ∃ (hd vd : Addr) (b : Bool) (l : List Str) (pr : Str → Rg) (rs : List Row) (v : Str → Bool), vs = [.ref hd, .ref vd, .bl b] ∧ PrsAt K H hd l pr ∧ l.length ≤ 100 ∧ (∀ y ∈ l, y ∈ plc rs) ∧ H vd = some (.dK (kvG rs v)) ∧
  ∀ a H', Same H H' → SqT K H' a (rgV (rgSum ((l.filter fun y => decide (v y = b)).map pr))) → Q (.ref a) H'
section
variable {P : Program} {w : World} {K : PySem.W.Frag} {mg : Str → Option Value} {base : Heap} {C CM CC CL CS : Addr}
theorem sc_Lshown : FnScope ["_law_ons", "_law_offs"] ["_law_ons", "_law_offs"] (defScope s_L_shown) := ⟨rfl, rfl, rfl, by decide +kernel, rfl, by decide +kernel, by decide +kernel⟩
theorem ok_Lshown (D : DefAt K mg "_law_shown" s_L_shown ["_law_ons", "_law_offs"]) : FnOk P w K mg base CX0 1 D.f D.fd ["_law_ons", "_law_offs"] spLShown := by
  refine D.F.ok sc_Lshown (fun vs H Q E h => ?_) (fun cdv A outer s H vs Q E hr h => ?_)
  · obtain ⟨a, b, rfl, _⟩ := h
    rfl
  · obtain ⟨i, j, rfl, hq⟩ := h
    refine ⟨_, pss_cons (ps_if (pt_cmpR op_gt (pv 0) pe_int (nomark _)) (pss_one (ps_ret (pe_ifExp (pt_cmpR op_gt (pv 1) pe_int (nomark _)) pe_str pe_str))) pss_nil)
      (pss_one (ps_ret (pe_ifExp (pt_cmpR op_gt (pv 1) pe_int (nomark _)) pe_str pe_str))), ?_⟩
    refine ⟨_, rfl, _, _, rfl, rfl, _, rfl, ?_⟩
    cases e : decide (0 < i) with
    | true =>
      rw [e] at hq
      refine iteT ⟨_, rfl, _, _, rfl, rfl, _, rfl, ?_⟩
      cases e2 : decide (0 < j) with
      | true => rw [e2] at hq; exact iteT hq
      | false => rw [e2] at hq; exact iteF hq
    | false =>
      rw [e] at hq
      refine iteF ⟨_, rfl, _, _, rfl, rfl, _, rfl, ?_⟩
      cases e2 : decide (0 < j) with
      | true => rw [e2] at hq; exact iteT hq
      | false => rw [e2] at hq; exact iteF hq
abbrev nLWi : List Str := ["_law_rows_here", "_law_box", "_law_row"]
theorem sc_Lwithin : FnScope nLWi ["_law_rows_here", "_law_box"] (defScope s_L_within) := ⟨rfl, rfl, rfl, by decide +kernel, rfl, by decide +kernel, by decide +kernel⟩
theorem ok_Lwithin (D : DefAt K mg "_law_within" s_L_within ["_law_rows_here", "_law_box"]) (Db : DefAt K mg "_law_beneath" s_L_beneath ["_law_rows_here", "_law_box"]) (Gb : FnOk P w K mg base CX0 3 Db.f Db.fd ["_law_rows_here", "_law_box"] spBeneath) : FnOk P w K mg base CX0 4 D.f D.fd ["_law_rows_here", "_law_box"] spLWithin := by
  refine D.F.ok sc_Lwithin (fun vs H Q E h => ?_) (fun cdv A outer s H vs Q E hr h => ?_)
  · obtain ⟨p, z, rs, rfl, _⟩ := h
    rfl
  · obtain ⟨p, z, rs, rfl, hL, hv, hl, hq⟩ := h
    obtain ⟨as, hp, hrows⟩ := id hL.ex
    refine ⟨_, pss_one (ps_ret (pe_ifExp (pt_cmpR op_eq (pv 1) pe_str (nomark _)) (pe_op op_cat (pe_lst (pa_cons pe_str pa_nil)) (pe_lc (own := [("_law_row", 2)]) (g := gName 2) (tt := tYes) (te := tOp (rIxT K) (tVar 2) (tC (.int 0))) rfl sc_Lwithin.nd (pi_list (pv 0)) (blkOk_by (N := nLWi) (sc := defScope s_L_within) (by decide +kernel))
        (fun _ _ _ _ _ => pg_name (i := 2) sc_Lwithin.nd rfl (Or.inl rfl)) (fun _ _ _ _ _ => pts_nil) (fun _ _ _ _ _ => by exact pe_ix ix_tup (pv 2) pe_int (fun _ _ => rfl)))) (pe_call Gb hr rfl Db.g Db.F.kp Db.b .nil pass0 (pa_cons (pv 0) (pa_cons (pv 1) pa_nil))))), ?_⟩
    refine ⟨_, rfl, rfl, _, rfl, ?_⟩
    by_cases e : z = ("top" : Str)
    · rw [decide_eq_true (congrArg V.str e)]
      refine iteT ⟨(by show 1 ≤ sizeLine; decide), fun l1 hl1 => ?_⟩
      have s1 : Same H (upd H l1 (.lst [V.str ("top" : Str)])) := Same.new hl1
      have e1 : (upd H l1 (.lst [V.str ("top" : Str)])) l1 = some (.lst [V.str ("top" : Str)]) := upd_same
      generalize upd H l1 (.lst [V.str ("top" : Str)]) = H1 at s1 e1
      have hp1 := s1 _ _ hp
      have r1 := hrows.same s1
      refine ⟨_, rfl, p, rfl, ⟨_, SqL.of hp1⟩, fun D2 hD2 => ?_⟩
      refine lc_list (K := K) (a := p) (xs := as.map V.ref) (fun i H' => Same H1 H' ∧ H' D2 = some (.lst ((names (rs.take i)).map V.str))) ⟨Same.new hD2, upd_same⟩ (fun i H' _ m => SqL.of (m.1 _ _ hp1)) ?_ ?_
      · rintro i x H3 hx ⟨s3, e3⟩
        obtain ⟨ra, r, rfl, hra, hr', e0⟩ := rows_at r1 hx
        refine ⟨rfl, tYes_if ⟨_, rfl, ra, _, _, _, rfl, rfl, sqT (s3 _ _ e0), atI0 _ _ _ _, _, e3, small1000 (by unfold names; rw [List.length_map, List.length_map, List.length_take]; omega), fun b o eb => ?_, ?_⟩⟩
        · rw [upd_ne (fun y => by rw [y, hD2] at eb; cases eb)]
          exact s3 _ _ eb
        · unfold names
          rw [upd_same, take_more hr', List.map_append, List.map_append]; rfl
      rintro H3 ⟨s3, e3⟩
      rw [List.length_map, r1.len, List.take_length] at e3
      refine ⟨l1, D2, _, _, rfl, rfl, s3 _ _ e1, e3, szl (by unfold names; rw [List.length_map, List.length_map]; show 1 + _ ≤ 1000; omega), fun q hq' => ?_⟩
      refine hq q _ ((s1.trans s3).free hq') ((s1.trans s3).trans (Same.new hq')) ?_
      rw [upd_same]
      unfold lawWithin
      rw [if_pos e]
      rfl
    · rw [decide_eq_false (fun q => e (V.str.inj q))]
      refine iteF ⟨_, rfl, _, rfl, p, z, rs, rfl, hL, hv, hl, fun D2 H2 h2 s2 e2 => hq D2 H2 h2 s2 ?_⟩
      unfold lawWithin
      rw [if_neg e]
      exact e2
abbrev pLH : List Str := ["_law_rows_here", "_law_ranges", "_law_box"]
abbrev nLH : List Str := ["_law_rows_here", "_law_ranges", "_law_box", "_law_found", "_law_within_here", "_law_name_here", "_law_folder", "_law_kind", "_law_price"]
theorem sc_Lheld : FnScope nLH pLH (defScope s_L_held) := ⟨rfl, rfl, rfl, by decide +kernel, rfl, by decide +kernel, by decide +kernel⟩
theorem ok_Lheld (D : DefAt K mg "_law_held" s_L_held pLH) (Dw : DefAt K mg "_law_within" s_L_within ["_law_rows_here", "_law_box"]) (Gw : FnOk P w K mg base CX0 4 Dw.f Dw.fd ["_law_rows_here", "_law_box"] spLWithin) : FnOk P w K mg base CX0 5 D.f D.fd pLH (spLHeld K) := by
  refine D.F.ok sc_Lheld (fun vs H Q E h => ?_) (fun cdv A outer s H vs Q E hr h => ?_)
  · obtain ⟨p, d, z, rs, L, g, rfl, _⟩ := h
    rfl
  · obtain ⟨p, d, z, rs, L, g, rfl, hL, hv, hl, hRg, hz, hq⟩ := h
    have hu := hu_of hr
    refine ⟨_, pss_cons (ps_par (i := 3) (j := 4) rfl sc_Lheld.nd rfl rfl (by decide) rfl rfl (pa_cons pe_dnewK (pa_cons (pe_call Gw hr rfl Dw.g Dw.F.kp Dw.b .nil pass0 (pa_cons (pv 0) (pa_cons (pv 2) pa_nil))) pa_nil)) (by rfl))
      (pss_cons (ps_for PassesOwn.never rfl (pi_list (pv 0)) (pg_tup rfl (pgs_cons (pg_name (i := 5) sc_Lheld.nd rfl (.inl rfl)) (pgs_cons (pg_name (i := 6) sc_Lheld.nd rfl (.inl rfl)) (pgs_cons (pg_name (i := 7) sc_Lheld.nd rfl (.inl rfl)) (pgs_cons (pg_name (i := 8) sc_Lheld.nd rfl (.inl rfl)) pgs_nil)))))
        (pss_one (ps_if (PW.pt (pw_and (pt_cmpR op_ne (pv 7) pe_str (nomark _)) (pw_and1 (pt_cmpR op_in_seq (pv 5) (pv 4) (by rfl)))))
          (pss_one (ps_dput hu (pv 3) (pv 5) (pe_ifExp (pt_cmpR op_eq (pv 7) pe_str (nomark _)) (pe_tup (pa_cons pe_int (pa_cons pe_int pa_nil))) (pe_dget2 hu (pv 1) (pv 5) (pe_tup (pa_cons pe_int (pa_cons pe_non pa_nil))) (by constructor <;> intros <;> rfl))) rfl)) pss_nil)))
      (pss_one (ps_ret (pv 3)))), ?_⟩
    obtain ⟨as, hp, hrows⟩ := id hL.ex
    refine fun D1 hD1 => ?_
    have s1 : Same H (upd H D1 (.dK [])) := Same.new hD1
    have e1 : (upd H D1 (.dK [])) D1 = some (.dK []) := upd_same
    generalize upd H D1 (.dK []) = H1 at s1 e1
    refine ⟨_, rfl, _, rfl, p, z, rs, rfl, hL.same s1, hv, hl, fun Dw H2 hDw s2 e2 => ⟨_, _, rfl, ?_⟩⟩
    have s12 := s1.trans s2
    have e12 := s2 _ _ e1
    have nw : Dw ≠ D1 := fun e => by rw [e, e1] at hDw; cases hDw
    have npD : p ≠ D1 := ne_of_none hp hD1
    refine ⟨_, rfl, p, rfl, ⟨_, SqL.of (s12 _ _ hp)⟩, ?_⟩
    refine for_list (K := K) (a := p) (xs := as.map V.ref) (fun i σ H' => ∃ v5 v6 v7 v8 : Option V, σ = [some (.ref p), some (.ref d), some (.str z), some (.ref D1), some (.ref Dw), v5, v6, v7, v8] ∧ SB D1 H2 H' ∧ PrsAt K H' D1 (((rs.take i).filter (heldP rs z)).map (·.nm)) (pairR rs L g)) ⟨_, _, _, _, rfl, SB.refl _ _, ⟨fun _ => D1, e12, fun y hy => by simp at hy⟩⟩ (fun i σ H' _ ⟨_, _, _, _, _, sb, _⟩ => SqL.of (sb _ _ npD (s12 _ _ hp))) ?_ ?_
    · rintro i x σ H3 hx ⟨v5, v6, v7, v8, rfl, sb, ad, hw, hpr⟩
      have s3 : Same H H3 := same_sb hD1 ((SB.of s12).trans sb)
      obtain ⟨ra, r, rfl, hra, hr', e0⟩ := rows_at (hrows.same s3) hx
      have hrm := List.mem_of_getElem? hr'
      have ro := rowOf_at hv hr'
      have hwin : H3 Dw = some (.lst ((lawWithin rs z).map V.str)) := sb _ _ nw e2
      refine ⟨ra, _, rfl, sqT e0, rfl, _, _, rfl, _, _, rfl, _, _, rfl, _, _, rfl, rfl, ?_⟩
      have dn : (!decide (V.str r.ki = V.str ("folder" : Str))) = decide (r.ki ≠ ("folder" : Str)) := by
        by_cases q : r.ki = ("folder" : Str)
        · simp [q]
        · have : V.str r.ki ≠ V.str ("folder" : Str) := fun e => q (V.str.inj e)
          simp [q]
      refine ⟨_, rfl, rfl, _, rfl, ?_⟩
      rw [dn]
      have skip : heldP rs z r = false → ∃ v5 v6 v7 v8 : Option V, ([some (V.ref p), some (.ref d), some (.str z), some (.ref D1), some (.ref Dw), some (.str r.nm), some (.str r.fo), some (.str r.ki), some (prV r.pr)] : St) = [some (.ref p), some (.ref d), some (.str z), some (.ref D1), some (.ref Dw), v5, v6, v7, v8] ∧ SB D1 H2 H3 ∧ PrsAt K H3 D1 (((rs.take (i + 1)).filter (heldP rs z)).map (·.nm)) (pairR rs L g) := fun hf => by
        refine ⟨_, _, _, _, rfl, sb, ad, ?_, ?_⟩
        · rw [filt_more hr', hf]; simpa using hw
        · rw [filt_more hr', hf]; simpa using hpr
      by_cases hk : r.ki = ("folder" : Str)
      · rw [decide_eq_false (fun q => q hk)]
        exact iteF (skip (by unfold heldP; rw [decide_eq_false (fun q => q hk)]; rfl))
      rw [decide_eq_true hk]
      refine iteT ⟨_, rfl, _, rfl, Dw, _, rfl, .inl (SqL.of hwin), rfl, flat_strs _, _, rfl, ?_⟩
      rw [if_neg Bool.false_ne_true, inV_strs, show decide (r.nm ∈ lawWithin rs z) = decide (r.nm ∈ withinC rs z) from decide_eq_decide.mpr (mem_lawWithin hv hz)]
      by_cases hin : r.nm ∈ withinC rs z
      · rw [decide_eq_true hin]
        have ht : heldP rs z r = true := by unfold heldP; rw [decide_eq_true hk, decide_eq_true hin]; rfl
        have hnew : r.nm ∉ (((rs.take i).filter (heldP rs z)).map (·.nm)) := fun h => by
          obtain ⟨q, hq1, hq2⟩ := List.mem_map.mp h
          exact (hv i r hr').new (List.mem_map.mpr ⟨q, (List.mem_filter.mp hq1).1, hq2⟩)
        have epr : pairR rs L g r.nm = if r.ki = ("shut" : Str) then (if r.nm ∈ L then g r.nm else anyI) else if r.ki = ("item" : Str) then oneI else noI := by
          unfold pairR
          rw [ro]
        have put : ∀ (a : Addr) (G : Hp), Same H3 G → SqT K G a (rgV (pairR rs L g r.nm)) → ∃ (a_1 : Addr) (H4 : Hp), V.ref D1 = V.ref a_1 ∧ DPut G a_1 (.str r.nm) (.ref a) H4 ∧ ∃ v5 v6 v7 v8 : Option V, ([some (V.ref p), some (.ref d), some (.str z), some (.ref D1), some (.ref Dw), some (.str r.nm), some (.str r.fo), some (.str r.ki), some (prV r.pr)] : St) = [some (.ref p), some (.ref d), some (.str z), some (.ref D1), some (.ref Dw), v5, v6, v7, v8] ∧ SB D1 H2 H4 ∧ PrsAt K H4 D1 (((rs.take (i + 1)).filter (heldP rs z)).map (·.nm)) (pairR rs L g) := by
          intro a G s ha
          have hwG := s _ _ hw
          have lt : (((rs.take i).filter (heldP rs z)).map (·.nm)).length ≤ 200 := by
            rw [List.length_map]
            have h1 := List.length_filter_le (heldP rs z) (rs.take i)
            rw [List.length_take] at h1
            omega
          refine ⟨D1, _, rfl, DPut.k (k := Sum.inr r.nm) hwG (small1000 (by unfold kvX; rw [List.length_map]; omega)), _, _, _, _, rfl, fun b o nb e => by rw [upd_ne nb]; exact s _ _ (sb b o nb e), ?_⟩
          have := prs_put hwG (fun y hy => sqT_same (hpr y hy) s) hnew ha
          rw [filt_more hr', ht, List.map_append]
          exact this
        refine iteT ?_
        refine ⟨_, rfl, rfl, _, rfl, ?_⟩
        by_cases hi : r.ki = ("item" : Str)
        · rw [decide_eq_true (congrArg V.str hi)]
          rw [hi, if_neg (by decide +kernel), if_pos rfl] at epr
          refine iteT ⟨(by show 2 ≤ sizeLine; decide), fun a ha => ⟨_, rfl, _, rfl, put a _ (Same.new ha) ?_⟩⟩
          rw [epr]
          exact sqT upd_same
        · rw [decide_eq_false (fun q => hi (V.str.inj q))]
          have hsh : r.ki = ("shut" : Str) := by
            have := (hv i r hr').kind
            simp only [kinds3, List.mem_cons, List.not_mem_nil, or_false] at this
            rcases this with h | h | h
            · exact absurd h hk
            · exact absurd h hi
            · exact h
          rw [if_pos hsh] at epr
          obtain ⟨ad0, hd3, hg3⟩ := hRg.same s3
          refine iteF ⟨_, rfl, d, rfl, .inl ⟨_, .inl hd3⟩, _, rfl, (by show 2 ≤ sizeLine; decide), fun a ha => ?_⟩
          have sa : Same H3 (upd H3 a (.tup [V.int 0, V.non])) := Same.new ha
          refine ⟨_, DGet.k (k := Sum.inr r.nm) (sa _ _ hd3), ?_⟩
          by_cases hm : r.nm ∈ L
          · rw [valV_kvX _ hm]
            rw [if_pos hm] at epr
            have hs := sa _ _ (hg3 _ hm)
            rw [← epr] at hs
            exact ⟨_, rfl, _, rfl, put _ _ sa (sqT hs)⟩
          · rw [valV_kvX_none hm]
            rw [if_neg hm] at epr
            refine ⟨_, rfl, _, rfl, put a _ sa ?_⟩
            rw [epr]
            exact sqT upd_same
      · rw [decide_eq_false hin]
        exact iteF (skip (by unfold heldP; rw [decide_eq_true hk, decide_eq_false hin]; rfl))
    · rintro σ H3 ⟨v5, v6, v7, v8, rfl, sb, hpr⟩
      rw [List.length_map, hrows.len, List.take_length] at hpr
      exact ⟨_, rfl, hq D1 H3 hD1 (same_sb hD1 ((SB.of s12).trans sb)) hpr⟩
end
end Ts

set_option maxRecDepth 100000
set_option maxHeartbeats 4000000
namespace Ts
open PySem L2
theorem kv_ne {H : Hp} {hd vd : Addr} {ad : Str → Addr} {l : List Str} {rs : List Row} {v : Str → Bool} (h1 : H hd = some (.dK (kvX (fun z => V.ref (ad z)) l))) (h2 : H vd = some (.dK (kvG rs v))) : vd ≠ hd := fun e => by
  rw [e, h1] at h2
  have e2 := HO.dK.inj (Option.some.inj h2)
  cases l with
  | nil => cases e2
  | cons y l =>
    have e3 := congrArg (fun l => l.head?) e2
    have e4 := (Prod.mk.inj (Option.some.inj e3)).2
    cases e4
def wordsI (x y : List Int) : List Str := (x.map fun a => y.map fun b => shownS (decide (0 < a)) (decide (0 < b))).flatten
theorem words_I (x y : List Bool) : wordsI (x.map fun b => if b then (1 : Int) else 0) (y.map fun b => if b then (1 : Int) else 0) = wordsB x y := by
  unfold wordsI wordsB
  rw [List.map_map]
  congr 1
  refine List.map_congr_left fun a _ => ?_
  show (y.map fun b => if b then (1 : Int) else 0).map _ = _
  rw [List.map_map]
  refine List.map_congr_left fun b _ => ?_
  show shownS (decide (0 < if a then (1 : Int) else 0)) (decide (0 < if b then (1 : Int) else 0)) = shownS a b
  cases a <;> cases b <;> rfl
theorem sideB_len (g : Rg) : (sideB g).length ≤ 2 := by
  unfold sideB
  split
  · decide
  · split <;> decide
def spLMay (K : PySem.W.Frag) : Sp := fun vs H Q _ => ∃ (hd vd : Addr) (l : List Str) (pr : Str → Rg) (rs : List Row) (v : Str → Bool), vs = [.ref hd, .ref vd] ∧ PrsAt K H hd l pr ∧ l.length ≤ 100 ∧ (∀ y ∈ l, y ∈ plc rs) ∧ H vd = some (.dK (kvG rs v)) ∧
  ∀ D H' (ws : List Str), H D = none → Same H H' → H' D = some (.lst (ws.map V.str)) → ws.Perm (wordsI (sideB (rgSum ((l.filter fun y => decide (v y = true)).map pr))) (sideB (rgSum ((l.filter fun y => decide (v y = false)).map pr)))) → Q (.ref D) H'
section
variable {P : Program} {w : World} {K : PySem.W.Frag} {mg : Str → Option Value} {base : Heap} {C CM CC CL CS : Addr}
abbrev pLT : List Str := ["_law_held_here", "_law_values", "_law_value"]
abbrev nLT : List Str := ["_law_held_here", "_law_values", "_law_value", "_law_ends", "_law_most", "_law_name_here", "_law_one"]
theorem sc_Ltotal : FnScope nLT pLT (defScope s_L_total) := ⟨rfl, rfl, rfl, by decide +kernel, rfl, by decide +kernel, by decide +kernel⟩
theorem ok_Ltotal (D : DefAt K mg "_law_total" s_L_total pLT) (hS : mg "sum" = none) : FnOk P w K mg base CX0 1 D.f D.fd pLT (spLTotal K) := by
  refine D.F.ok sc_Ltotal (fun vs H Q E h => ?_) (fun cdv A outer s H vs Q E hr h => ?_)
  · obtain ⟨hd, vd, b, l, pr, rs, v, rfl, _⟩ := h
    rfl
  · obtain ⟨hd, vd, b, l, pr, rs, v, rfl, ⟨ad, h1, h2⟩, hl, hsub, hvd, hq⟩ := h
    have hu := hu_of hr
    refine ⟨_, pss_cons (ps_lock (ps_setLc (i := 3) (own := [("_law_name_here", 5)]) (g := gName 5) (tt := tTest (tOp rEq (tDGet (tVar 1) (tVar 5)) (tVar 2))) (te := tDGet (tVar 0) (tVar 5)) rfl sc_Ltotal.nd rfl rfl (sw_true rfl rfl rfl (by decide +kernel)) (pi_keys (pv 0)) (blkOk_by (N := nLT) (sc := defScope s_L_total) (by decide +kernel))
          (fun _ _ _ _ _ => pg_name (i := 5) sc_Ltotal.nd rfl (Or.inl rfl)) (fun _ _ _ _ _ => by exact pts_one (pt_cmpR op_eq (pe_dget hu (pv 1) (pv 5) (fun _ _ => rfl)) (pv 2) (nomark _))) (fun _ _ _ _ _ => by exact pe_dget hu (pv 0) (pv 5) (fun _ _ => rfl))))
      (C8.pss_cut (ps_set (i := 4) sc_Ltotal.nd rfl (.inl rfl) (pe_ifExp (pt_cmpR op_in_seq pe_non (pe_lc (own := [("_law_one", 6)]) (g := gName 6) (tt := tYes) (te := tOp (rIxT K) (tVar 6) (tC (.int 1))) rfl sc_Ltotal.nd (pi_list (pv 3)) (blkOk_by (N := nLT) (sc := defScope s_L_total) (by decide +kernel))
          (fun _ _ _ _ _ => pg_name (i := 6) sc_Ltotal.nd rfl (Or.inl rfl)) (fun _ _ _ _ _ => pts_nil) (fun _ _ _ _ _ => by exact pe_ix ix_tup (pv 6) pe_int (fun _ _ => rfl))) (by rfl)) pe_non
          (pe_callB (cr_sum rfl) (by rfl) hS (by decide +kernel) (pa_cons (pe_lc (own := [("_law_one", 6)]) (g := gName 6) (tt := tYes) (te := tOp (rIxT K) (tVar 6) (tC (.int 1))) rfl sc_Ltotal.nd (pi_list (pv 3)) (blkOk_by (N := nLT) (sc := defScope s_L_total) (by decide +kernel))
          (fun _ _ _ _ _ => pg_name (i := 6) sc_Ltotal.nd rfl (Or.inl rfl)) (fun _ _ _ _ _ => pts_nil) (fun _ _ _ _ _ => by exact pe_ix ix_tup (pv 6) pe_int (fun _ _ => rfl))) pa_nil))))
      (pss_one (ps_ret (pe_tup (pa_cons (pe_callB (cr_sum rfl) (by rfl) hS (by decide +kernel) (pa_cons (pe_lc (own := [("_law_one", 6)]) (g := gName 6) (tt := tYes) (te := tOp (rIxT K) (tVar 6) (tC (.int 0))) rfl sc_Ltotal.nd (pi_list (pv 3)) (blkOk_by (N := nLT) (sc := defScope s_L_total) (by decide +kernel))
          (fun _ _ _ _ _ => pg_name (i := 6) sc_Ltotal.nd rfl (Or.inl rfl)) (fun _ _ _ _ _ => pts_nil) (fun _ _ _ _ _ => by exact pe_ix ix_tup (pv 6) pe_int (fun _ _ => rfl))) pa_nil)) (pa_cons (pv 4) pa_nil)))))), ?_⟩
    refine ⟨hd, _, h1, trivial, fun od => ?_⟩
    have nvh := kv_ne h1 hvd
    obtain ⟨Hl, El⟩ : ∃ Hx, Hx = upd H hd (.frz od (.dK (kvX (fun z => V.ref (ad z)) l))) := ⟨_, rfl⟩
    have lk : Hl hd = some (.frz od (.dK (kvX (fun z => V.ref (ad z)) l))) := by rw [El]; exact upd_same
    have keep : ∀ b o, H b = some o → b ≠ hd → Hl b = some o := fun b o e n => by rw [El, upd_ne n]; exact e
    have back : ∀ H', Same Hl H' → Same H (upd H' hd (.dK (kvX (fun z => V.ref (ad z)) l))) := fun H' s b o e => by
      by_cases q : b = hd
      · rw [q, upd_same, ← e, q]; exact h1.symm
      · rw [upd_ne q]; exact s _ _ (keep b o e q)
    have lv := keep _ _ hvd nvh
    rw [← El]
    clear El
    refine ⟨_, rfl, hd, od, rfl, .inl ⟨_, lk, fun D1 hD1 => ?_⟩⟩
    refine lc_it (walk_keys (d := hd) (o := od) (kvs := kvX (fun z => V.ref (ad z)) l)) (fun i H' => Same Hl H' ∧ H' D1 = some (.lst (((l.take i).filter fun y => decide (v y = b)).map fun y => V.ref (ad y)))) ⟨Same.new hD1, upd_same⟩ (fun i H' _ m => m.1 _ _ lk) ?_ ?_
    · rintro i x H3 H4 hi ⟨s3, e3⟩ ⟨rfl, k', w', hk', rfl⟩
      obtain ⟨y, ey, hy⟩ := kvX_at hk'
      cases ey
      have hym := List.mem_of_getElem? hy
      have dg : DGet H4 vd (.str y) (some (.bl (v y))) := .inl ⟨_, .inr y, .inl (s3 _ _ lv), rfl, (valV_kvG v (hsub y hym)).symm⟩
      have dg2 : DGet H4 hd (.str y) (some (.ref (ad y))) := .inl ⟨_, .inr y, .inr ⟨od, s3 _ _ lk⟩, rfl, (valV_kvX (fun z => V.ref (ad z)) hym).symm⟩
      have lt : ((l.take i).filter fun y => decide (v y = b)).length ≤ 200 := by
        have h1 := List.length_filter_le (fun y => decide (v y = b)) (l.take i)
        rw [List.length_take] at h1
        omega
      refine ⟨rfl, _, rfl, _, rfl, vd, _, rfl, dg, _, rfl, rfl, _, rfl, ?_⟩
      rw [dec_bl]
      refine ite2 (fun hb => ?_) (fun hb => ?_)
      · refine ⟨_, rfl, _, rfl, hd, _, rfl, dg2, _, e3, small1000 (by rw [List.length_map]; omega), fun o' ob eb => ?_, ?_⟩
        · rw [upd_ne (fun q => by rw [q, hD1] at eb; cases eb)]
          exact s3 _ _ eb
        · rw [upd_same, filt_more hy, if_pos hb, List.map_append]; rfl
      · refine ⟨s3, ?_⟩
        rw [filt_more hy, if_neg hb, List.append_nil]
        exact e3
    rintro H3 ⟨s3, e3⟩
    have ek : (kvX (fun z => V.ref (ad z)) l).length = l.length := by unfold kvX; rw [List.length_map]
    rw [ek, List.take_length] at e3
    have nD : D1 ≠ hd := (ne_of_none lk hD1).symm
    refine ⟨s3 _ _ lk, ?_⟩
    have s4 := back _ s3
    have e4 : (upd H3 hd (.dK (kvX (fun z => V.ref (ad z)) l))) D1 = some (.lst ((l.filter fun y => decide (v y = b)).map fun y => V.ref (ad y))) := by rw [upd_ne nD]; exact e3
    generalize upd H3 hd (.dK (kvX (fun z => V.ref (ad z)) l)) = H4 at s4 e4
    have lS : (l.filter fun y => decide (v y = b)).length ≤ 100 := Nat.le_trans (List.length_filter_le _ _) hl
    have tup : ∀ y ∈ (l.filter fun y => decide (v y = b)), ∀ H', Same H4 H' → SqT K H' (ad y) (rgV (pr y)) := fun y hy H' s => sqT_same (h2 y (List.mem_filter.mp hy).1) (s4.trans s)
    clear e3 s3 nD lk keep back lv hD1
    generalize (l.filter fun y => decide (v y = b)) = S at e4 lS tup hq
    have ea : ((S.map pr).map (·.hi)).any (fun o => decide (o = none)) = (S.map pr).any fun q => decide (q.hi = none) := by rw [List.any_map]; rfl
    refine ⟨fun σ' H' => σ' = [some (.ref hd), some (.ref vd), some (.bl b), some (.ref D1), some (prV (rgSum (S.map pr)).hi), none, none] ∧ Same H4 H', ?_, ?_⟩
    · refine ⟨_, rfl, D1, rfl, ⟨_, SqL.of e4⟩, fun D2 hD2 => ?_⟩
      refine lc_list (K := K) (a := D1) (xs := S.map fun y => V.ref (ad y)) (fun i H' => Same H4 H' ∧ H' D2 = some (.lst ((((S.take i).map pr).map (·.hi)).map prV))) ⟨Same.new hD2, upd_same⟩ (fun i H' _ m => SqL.of (m.1 _ _ e4)) ?_ ?_
      · rintro i x H5 hx ⟨s5, e5⟩
        rw [List.getElem?_map] at hx
        obtain ⟨y, hy, rfl⟩ := Option.map_eq_some_iff.mp hx
        refine ⟨rfl, tYes_if ⟨_, rfl, ad y, _, _, _, rfl, rfl, tup y (List.mem_of_getElem? hy) _ s5, rfl, _, e5, small1000 (by rw [List.length_map, List.length_map, List.length_map, List.length_take]; omega), fun o' ob eb => ?_, ?_⟩⟩
        · rw [upd_ne (fun q => by rw [q, hD2] at eb; cases eb)]
          exact s5 _ _ eb
        · rw [upd_same, take_more hy, List.map_append, List.map_append, List.map_append]; rfl
      rintro H5 ⟨s5, e5⟩
      rw [List.length_map, List.take_length] at e5
      refine ⟨D2, _, rfl, .inl (SqL.of e5), rfl, flat_prs _, _, rfl, ?_⟩
      rw [if_neg Bool.false_ne_true, inV_prs, ea]
      cases en : (S.map pr).any fun q => decide (q.hi = none) with
      | true =>
        refine iteT ⟨?_, s5⟩
        unfold rgSum
        rw [en]
        rfl
      | false =>
        refine iteF ⟨_, rfl, D1, rfl, ⟨_, SqL.of (s5 _ _ e4)⟩, fun D3 hD3 => ?_⟩
        refine lc_list (K := K) (a := D1) (xs := S.map fun y => V.ref (ad y)) (fun i H' => Same H5 H' ∧ H' D3 = some (.lst ((((S.take i).map pr).map (·.hi)).map prV))) ⟨Same.new hD3, upd_same⟩ (fun i H' _ m => SqL.of (m.1 _ _ (s5 _ _ e4))) ?_ ?_
        · rintro i x H6 hx ⟨s6, e6⟩
          rw [List.getElem?_map] at hx
          obtain ⟨y, hy, rfl⟩ := Option.map_eq_some_iff.mp hx
          refine ⟨rfl, tYes_if ⟨_, rfl, ad y, _, _, _, rfl, rfl, tup y (List.mem_of_getElem? hy) _ (s5.trans s6), rfl, _, e6, small1000 (by rw [List.length_map, List.length_map, List.length_map, List.length_take]; omega), fun o' ob eb => ?_, ?_⟩⟩
          · rw [upd_ne (fun q => by rw [q, hD3] at eb; cases eb)]
            exact s6 _ _ eb
          · rw [upd_same, take_more hy, List.map_append, List.map_append, List.map_append]; rfl
        rintro H6 ⟨s6, e6⟩
        rw [List.length_map, List.take_length] at e6
        refine ⟨D3, (S.map pr).map fun q => q.hi.getD 0, rfl, ?_, ?_, s5.trans s6⟩
        · have := prs_ints (S.map pr) en
          rw [List.map_map] at e6
          rw [← this]
          exact SqL.of e6
        · unfold rgSum
          rw [en]
          rfl
    rintro σ' H5 ⟨rfl, s5⟩
    refine ⟨_, rfl, D1, rfl, ⟨_, SqL.of (s5 _ _ e4)⟩, fun D3 hD3 => ?_⟩
    refine lc_list (K := K) (a := D1) (xs := S.map fun y => V.ref (ad y)) (fun i H' => Same H5 H' ∧ H' D3 = some (.lst ((((S.take i).map pr).map (·.lo)).map V.int))) ⟨Same.new hD3, upd_same⟩ (fun i H' _ m => SqL.of (m.1 _ _ (s5 _ _ e4))) ?_ ?_
    · rintro i x H6 hx ⟨s6, e6⟩
      rw [List.getElem?_map] at hx
      obtain ⟨y, hy, rfl⟩ := Option.map_eq_some_iff.mp hx
      refine ⟨rfl, tYes_if ⟨_, rfl, ad y, _, _, _, rfl, rfl, tup y (List.mem_of_getElem? hy) _ (s5.trans s6), rfl, _, e6, small1000 (by rw [List.length_map, List.length_map, List.length_map, List.length_take]; omega), fun o' ob eb => ?_, ?_⟩⟩
      · rw [upd_ne (fun q => by rw [q, hD3] at eb; cases eb)]
        exact s6 _ _ eb
      · rw [upd_same, take_more hy, List.map_append, List.map_append, List.map_append]; rfl
    rintro H6 ⟨s6, e6⟩
    rw [List.length_map, List.take_length] at e6
    exact ⟨D3, _, rfl, SqL.of e6, _, rfl, (by show 2 ≤ sizeLine; decide), fun a ha => hq a _ (((s4.trans s5).trans s6).trans (Same.new ha)) (sqT upd_same)⟩
end
end Ts

set_option maxRecDepth 100000
set_option maxHeartbeats 4000000
namespace Ts
open PySem L2
def spLOpen : Sp := fun vs H Q _ => ∃ (p : Addr) (rs : List Row), vs = [.ref p] ∧ RowsL H p rs ∧ rs.length ≤ 100 ∧ ∀ D H', H D = none → Same H H' → H' D = some (.lst (((rs.filter fun r => decide (r.pr ≠ none)).map (·.nm)).map V.str)) → Q (.ref D) H'
section
variable {P : Program} {w : World} {K : PySem.W.Frag} {mg : Str → Option Value} {base : Heap} {C CM : Addr}
abbrev nLOpen : List Str := ["_law_rows_here", "_law_row"]
theorem sc_Lopen : FnScope nLOpen ["_law_rows_here"] (defScope s_L_open) := ⟨rfl, rfl, rfl, by decide +kernel, rfl, by decide +kernel, by decide +kernel⟩
theorem ok_Lopen (D : DefAt K mg "_law_open" s_L_open ["_law_rows_here"]) : FnOk P w K mg base CX0 2 D.f D.fd ["_law_rows_here"] spLOpen := by
  refine D.F.ok sc_Lopen (fun vs H Q E h => ?_) (fun cdv A outer s H vs Q E hr h => ?_)
  · obtain ⟨p, rs, rfl, _⟩ := h
    rfl
  · obtain ⟨p, rs, rfl, hL, hl, hq⟩ := h
    obtain ⟨as, hp, hrows⟩ := id hL.ex
    refine ⟨_, pss_one (ps_ret (pe_lc (own := [("_law_row", 1)]) (g := gName 1) (tt := tTest (tOp (fun x y H Q => y = .non ∧ Q (.bl (!decide (x = .non))) H) (tOp (rIxT K) (tVar 1) (tC (.int 3))) (tC .non))) (te := tOp (rIxT K) (tVar 1) (tC (.int 0))) rfl sc_Lopen.nd (pi_list (pv 0)) (blkOk_by (N := nLOpen) (sc := defScope s_L_open) (by decide +kernel))
        (fun _ _ _ _ _ => pg_name (i := 1) sc_Lopen.nd rfl (Or.inl rfl)) (fun _ _ _ _ _ => by exact pts_one (pt_cmpR op_notN (pe_ix ix_tup (pv 1) pe_int (fun _ _ => rfl)) pe_non (nomark _))) (fun _ _ _ _ _ => by exact pe_ix ix_tup (pv 1) pe_int (fun _ _ => rfl)))), ?_⟩
    refine ⟨_, rfl, p, rfl, ⟨_, SqL.of hp⟩, fun D hD => ?_⟩
    refine lc_list (K := K) (a := p) (xs := as.map V.ref) (fun i H' => Same H H' ∧ H' D = some (.lst ((((rs.take i).filter fun r => decide (r.pr ≠ none)).map (·.nm)).map V.str))) ⟨Same.new hD, upd_same⟩ (fun i H' _ m => m.1.seq (SqL.of hp)) ?_ ?_
    · rintro i x H3 hx ⟨s3, hD3⟩
      rw [List.getElem?_map] at hx
      obtain ⟨ra, hra, rfl⟩ := Option.map_eq_some_iff.mp hx
      obtain ⟨r, hr'⟩ : ∃ r, rs[i]? = some r := ⟨rs[i]'(by rw [← hrows.len]; exact (List.getElem?_eq_some_iff.mp hra).1), List.getElem?_eq_getElem _⟩
      have e0 := s3 _ _ (hrows.at_ i ra r hra hr')
      have szD : (((rs.take i).filter fun r => decide (r.pr ≠ none)).map (·.nm)).length ≤ 1000 := by
        rw [List.length_map]
        have h1 := List.length_filter_le (fun r : Row => decide (r.pr ≠ none)) (rs.take i)
        rw [List.length_take] at h1
        omega
      refine ⟨rfl, _, rfl, ra, _, _, _, rfl, rfl, sqT e0, atI3 _ _ _ _, rfl, _, rfl, ?_⟩
      have e : (!decide (prV r.pr = V.non)) = decide (r.pr ≠ none) := by
        cases h : r.pr with
        | none => rfl
        | some c => rw [show decide (prV (some c) = V.non) = false from decide_eq_false (fun h => by cases h)]; rfl
      rw [e]
      refine ite2 (fun hi => ?_) (fun hi => ?_)
      · refine ⟨_, rfl, ra, _, _, _, rfl, rfl, sqT e0, atI0 _ _ _ _, _, hD3, by rw [List.length_map]; exact small1000 szD, fun b o eb => ?_, ?_⟩
        · rw [upd_ne (fun y => by rw [y, hD] at eb; cases eb)]
          exact s3 _ _ eb
        · rw [upd_same, filter_take hr', if_pos hi, List.map_append]; rfl
      · refine ⟨s3, ?_⟩
        rw [filter_take hr', if_neg hi, List.append_nil]
        exact hD3
    · rintro H3 ⟨s3, hD3⟩
      rw [List.length_map, hrows.len, List.take_length] at hD3
      exact hq D H3 hD s3 hD3
end
end Ts

set_option maxRecDepth 100000
set_option maxHeartbeats 4000000
namespace Ts
open PySem L2
def spLSome : Sp := fun vs H Q _ => ∃ (a l : Addr) (n : Int) (xs : List Str), vs = [.ref a, .ref l] ∧ Stm H a n ∧ n ≤ 1000000000 ∧ l ≠ a ∧ H l = some (.lst (xs.map V.str)) ∧ xs.length ≤ 100 ∧
  ∀ (D : Addr) (H' : Hp) (ys : List Str), H D = none → D ≠ a → H' D = some (.lst (ys.map V.str)) → ys.Sublist xs → SB a H H' → Stm H' a (n + xs.length) → Q (.ref D) H'
section
variable {P : Program} {w : World} {K : PySem.W.Frag} {mg : Str → Option Value} {base : Heap} {C CM : Addr}
abbrev nLSome : List Str := ["_law_stream_here", "_law_things", "_law_thing"]
theorem sc_Lsome : FnScope nLSome ["_law_stream_here", "_law_things"] (defScope s_L_some) := ⟨rfl, rfl, rfl, by decide +kernel, rfl, by decide +kernel, by decide +kernel⟩
theorem ok_Lsome (D : DefAt K mg "_law_some" s_L_some ["_law_stream_here", "_law_things"]) (Dd : DefAt K mg "_law_draw" s_L_draw ["_law_stream_here", "_law_many"]) (Gd : FnOk P w K mg base CX0 2 Dd.f Dd.fd ["_law_stream_here", "_law_many"] spDraw) : FnOk P w K mg base CX0 3 D.f D.fd ["_law_stream_here", "_law_things"] spLSome := by
  refine D.F.ok sc_Lsome (fun vs H Q E h => ?_) (fun cdv A outer s H vs Q E hr h => ?_)
  · obtain ⟨a, l, n, xs, rfl, _⟩ := h
    rfl
  · obtain ⟨a, l, n, xs, rfl, hst, hn, nla, hl, hx, hq⟩ := h
    refine ⟨_, pss_one (ps_ret (pe_lc (own := [("_law_thing", 2)]) (g := gName 2) (tt := tTest (tOp rEq (tCall spDraw [] E0 (tCons (tVar 0) (tCons (tC (.int 2)) tNil))) (tC (.int 0)))) (te := tVar 2) rfl sc_Lsome.nd (pi_list (pv 1)) (blkOk_by (N := nLSome) (sc := defScope s_L_some) (by decide +kernel))
        (fun _ _ _ _ _ => pg_name (i := 2) sc_Lsome.nd rfl (Or.inl rfl)) (fun _ _ _ _ _ => by exact pts_one (pt_cmpR op_eq (pe_call Gd hr rfl Dd.g Dd.F.kp Dd.b .nil pass0 (pa_cons (pv 0) (pa_cons pe_int pa_nil))) pe_int (nomark _))) (fun _ _ _ _ _ => pv 2))), ?_⟩
    refine ⟨_, rfl, l, rfl, ⟨_, SqL.of hl⟩, fun D hD => ?_⟩
    have Da : D ≠ a := (hst.ne hD).symm
    refine lc_list (K := K) (a := l) (xs := xs.map V.str) (fun i H' => SB a H H' ∧ Stm H' a (n + i) ∧ ∃ ys : List Str, H' D = some (.lst (ys.map V.str)) ∧ ys.Sublist (xs.take i)) ⟨SB.upd hD, by simpa using hst.upd (o := .lst []) hD, [], upd_same, by simp⟩ (fun i H' _ m => SqL.of (m.1 _ _ nla hl)) ?_ ?_
    · rintro i x H2 hxi ⟨sb, st, ys, hD2, hsub⟩
      rw [List.getElem?_map] at hxi
      obtain ⟨z, hz, rfl⟩ := Option.map_eq_some_iff.mp hxi
      have hi : i < xs.length := (List.getElem?_eq_some_iff.mp hz).1
      refine ⟨rfl, _, rfl, a, 2, _, rfl, st, by omega, by decide, by decide, fun r H3 r0 r1 st3 he3 => ?_⟩
      have sb3 := sb.trans (sb_eq he3)
      have hD3 : H3 D = some (.lst (ys.map V.str)) := by rw [he3 D Da]; exact hD2
      have ly := hsub.length_le
      rw [List.length_take] at ly
      refine ⟨rfl, _, rfl, ?_⟩
      refine ite2 (fun _ => ?_) (fun _ => ?_)
      · refine ⟨_, rfl, _, hD3, small1000 (by rw [List.length_map]; omega), fun b o nb e => ?_, ?_, ys ++ [z], by rw [upd_same, List.map_append]; rfl, ?_⟩
        · rw [upd_ne (fun y => by rw [y, hD] at e; cases e)]
          exact sb3 b o nb e
        · obtain ⟨x1, y1, z1, e1, k1⟩ := st3
          exact ⟨x1, y1, z1, by rw [upd_ne Da.symm]; exact e1, k1.1, k1.2.1, k1.2.2.1, k1.2.2.2.1, by have := k1.2.2.2.2; push_cast; omega⟩
        · rw [take_more hz]
          exact List.Sublist.append hsub (List.Sublist.refl _)
      · refine ⟨sb3, st3.mono (by push_cast; omega), ys, hD3, ?_⟩
        rw [take_more hz]
        exact hsub.trans (List.sublist_append_left _ _)
    · rintro H2 ⟨sb, st, ys, hD2, hsub⟩
      rw [List.length_map] at st hsub
      rw [List.take_length] at hsub
      exact hq D H2 ys hD Da hD2 hsub sb st
end
end Ts

set_option maxRecDepth 100000
set_option maxHeartbeats 4000000
namespace Ts
open PySem L2
/-- what stands between two turns -/
structure RowsJ (a p fl nl : Addr) (H0 H : Hp) (ks : List Str) (ps : List (Option Int)) (m : Int) (i : Nat) (as : List Addr) (rs : List Row) (fs : List Str) : Prop where
  hp : H p = some (.lst (as.map V.ref))
  hf : H fl = some (.lst ((("top" : Str) :: fs).map V.str))
  fsub : ∀ z ∈ fs, z ∈ folderNames rs
  flen : fs.length ≤ i
  hn : H nl = some (.lst ((("top" : Str) :: rs.map (·.nm)).map V.str))
  rows : RowsAt H as rs
  val : Valid rs
  len : rs.length ≤ i
  mem : ∀ r ∈ rs, r.ki ∈ ks ∧ r.pr ∈ ps ∧ Drawn r.nm
  sb : SB a H0 H
  st : Stm H a m
theorem RowsJ.step {a p fl nl : Addr} {H0 H H' : Hp} {ks : List Str} {ps : List (Option Int)} {m m' : Int} {i j : Nat} {as : List Addr} {rs : List Row} {fs : List Str} (h : RowsJ a p fl nl H0 H ks ps m i as rs fs) (np : p ≠ a) (nf : fl ≠ a) (nn : nl ≠ a) (s : SB a H H') (hs : Stm H' a m') (hj : i ≤ j) :
    RowsJ a p fl nl H0 H' ks ps m' j as rs fs := by
  obtain ⟨x, y, z, e, _⟩ := id h.st
  exact ⟨s _ _ np h.hp, s _ _ nf h.hf, h.fsub, Nat.le_trans h.flen hj, s _ _ nn h.hn, h.rows.sb e s, h.val, Nat.le_trans h.len hj, h.mem, h.sb.trans s, hs⟩
section
variable {P : Program} {w : World} {K : PySem.W.Frag} {mg : Str → Option Value} {base : Heap}
theorem ok_rows (Dw : DefAt K mg "_law_way" s_L_way ["_law_rows_here", "_law_box"]) (D : DefAt K mg "_law_rows" s_L_rows ["_law_stream_here", "_law_many", "_law_kinds", "_law_prices"]) (Dn : DefAt K mg "_law_name" s_L_name ["_law_stream_here"]) (Dp : DefAt K mg "_law_pick" s_L_pick ["_law_stream_here", "_law_things"]) (Dd : DefAt K mg "_law_draw" s_L_draw ["_law_stream_here", "_law_many"]) (B : TxB mg) :
    FnOk P w K mg base CX0 5 D.f D.fd ["_law_stream_here", "_law_many", "_law_kinds", "_law_prices"] (spRows K) := by
  have Gp : FnOk P w K mg base CX0 3 Dp.f Dp.fd ["_law_stream_here", "_law_things"] (spPick K) := ok_pick Dp Dd B
  have Gn : FnOk P w K mg base CX0 4 Dn.f Dn.fd ["_law_stream_here"] spName := ok_name Dn Dp Dd B
  have Gw : FnOk P w K mg base CX0 2 Dw.f Dw.fd ["_law_rows_here", "_law_box"] spWay := ok_way Dw B
  refine D.F.ok sc_rows (fun vs H Q E h => ?_) (fun cdv A outer s H vs Q E hr h => ?_)
  · obtain ⟨a, kl, pl, many, n, ks, ps, rfl, _⟩ := h
    rfl
  · obtain ⟨a, kl, pl, many, n, ks, ps, rfl, hs, hn, hm0, hm1, hka, hpa, hks, hps, k1, k2, p1, p2, hkok, hpok, hq⟩ := h
    have hr2 : Room 3 _ := hr.mono (by decide)
    have hr1 : Room 2 _ := hr.mono (by decide)
    refine ⟨_, pss_cons (ps_par3 (i := 4) (j := 5) (l := 6) rfl sc_rows.nd rfl rfl rfl (by decide) (by decide) (by decide) rfl rfl rfl (pa_cons (pe_lst pa_nil) (pa_cons (pe_lst (pa_cons pe_str pa_nil)) (pa_cons (pe_lst (pa_cons pe_str pa_nil)) pa_nil))) (by rfl))
      (pss_cons (ps_for PassesOwn.never rfl (pi_range1 (by rfl) B.range (pa_cons (pv 1) pa_nil)) (pg_name (i := 7) sc_rows.nd rfl (Or.inl rfl))
        (pss_cons (ps_set (i := 8) sc_rows.nd rfl (.inl rfl) (pe_call Gn hr rfl Dn.g Dn.F.kp Dn.b .nil pass0 (pa_cons (pv 0) pa_nil)))
        (C8.pss_cut (ps_if (pt_cmpR op_in_seq (pv 8) (pv 6) (by rfl)) (pss_one (ps_set (i := 8) sc_rows.nd rfl (.inl rfl) (pe_op op_add_str (pe_op op_add_str pe_str (pe_item_str pe_str (pe_op op_mod (pv 7) pe_int) (fun _ _ => rfl))) (pe_item_str pe_str (pe_op op_mod (pe_op op_fdiv (pv 7) pe_int) pe_int) (fun _ _ => rfl))))) pss_nil)
        (pss_cons (ps_par (i := 9) (j := 10) rfl sc_rows.nd rfl rfl (by decide) rfl rfl (pa_cons (pe_call Gp hr2 rfl Dp.g Dp.F.kp Dp.b .nil pass0 (pa_cons (pv 0) (pa_cons (pv 2) pa_nil))) (pa_cons (pe_call Gp hr2 rfl Dp.g Dp.F.kp Dp.b .nil pass0 (pa_cons (pv 0) (pa_cons (pe_op op_cat (pe_slice sl_list (pv 5) (po_some (pe_un un_neg pe_int)) po_none) (pe_lst (pa_cons pe_str pa_nil))) pa_nil))) pa_nil)) (by rfl))
        (pss_one (ps_if (pt_cmpR op_notIn_seq (pv 8) (pv 6) (by rfl))
          (pss_cons (ps_expr (pe_bm PySem.F.plainAttrs_list PySem.F.slot_list_append PySem.F.type_list_append mt_append (pv 6) (pa_cons (pv 8) pa_nil)))
          (pss_cons (ps_expr (pe_bm PySem.F.plainAttrs_list PySem.F.slot_list_append PySem.F.type_list_append mt_append (pv 4) (pa_cons (pe_tup (pa_cons (pv 8) (pa_cons (pv 10) (pa_cons (pv 9) (pa_cons (pe_call Gp hr2 rfl Dp.g Dp.F.kp Dp.b .nil pass0 (pa_cons (pv 0) (pa_cons (pv 3) pa_nil))) pa_nil))))) pa_nil)))
          (pss_one (ps_if (PW.pt (pw_and (pt_cmpR op_eq (pv 9) pe_str (nomark _)) (pw_and1 (pt_cmpR op_lt (pe_callB call_len_seq (by rfl) B.len PySem.boot_len (pa_cons (pe_call Gw hr1 rfl Dw.g Dw.F.kp Dw.b .nil pass0 (pa_cons (pv 4) (pa_cons (pv 8) pa_nil))) pa_nil)) pe_int (nomark _))))) (pss_one (ps_expr (pe_bm PySem.F.plainAttrs_list PySem.F.slot_list_append PySem.F.type_list_append mt_append (pv 5) (pa_cons (pv 8) pa_nil)))) pss_nil)))) pss_nil))))))
      (pss_one (ps_ret (pv 4)))), ?_⟩
    refine ⟨Nat.zero_le _, fun p hp => ⟨(by show 1 ≤ sizeLine; decide), fun fl hfl => ⟨(by show 1 ≤ sizeLine; decide), fun nl hnl => ⟨_, _, _, rfl, ?_⟩⟩⟩⟩
    have hpf : p ≠ fl := fun q => by rw [← q, upd_same] at hfl; cases hfl
    have hfn : fl ≠ nl := fun q => by rw [← q, upd_same] at hnl; cases hnl
    have hpn : p ≠ nl := fun q => by rw [← q, upd_ne hpf, upd_same] at hnl; cases hnl
    have sp : Same H (upd (upd (upd H p (.lst [])) fl (.lst [V.str ("top" : Str)])) nl (.lst [V.str ("top" : Str)])) := (Same.new hp).trans ((Same.new hfl).trans (Same.new hnl))
    have pa : p ≠ a := (hs.ne hp).symm
    have fa : fl ≠ a := ((hs.upd hp).ne hfl).symm
    have na : nl ≠ a := (((hs.upd hp).upd hfl).ne hnl).symm
    refine ⟨_, rfl, many, rfl, by omega, by omega, ?_⟩
    refine for_range (lo := 0) (n := many.toNat) (fun i σ H' => ∃ (as : List Addr) (rs : List Row) (fs : List Str) (vk vn vki vf : Option V), σ = [some (.ref a), some (.int many), some (.ref kl), some (.ref pl), some (.ref p), some (.ref fl), some (.ref nl), vk, vn, vki, vf] ∧ RowsJ a p fl nl H H' ks ps (n + 13 * i) i as rs fs) ?_ ?_ ?_
    · refine ⟨[], [], [], none, none, none, none, rfl, ⟨?_, ?_, (fun z hz => by cases hz), Nat.le_refl _, upd_same, RowsAt.nil, Valid.nil, Nat.le_refl _, (fun r hr => by cases hr), SB.of sp, by simpa using hs.same sp⟩⟩
      · rw [upd_ne hpn, upd_ne hpf, upd_same]; rfl
      · rw [upd_ne hfn, upd_same]; rfl
    · rintro i σ H1 hi ⟨as, rs, fs, vk, vn, vki, vf, rfl, R⟩
      have hi40 : i < 40 := by omega
      have hrl := R.len
      refine ⟨_, rfl, a, _, rfl, R.st, by omega, fun z H2 hz hs2 sb2 => ?_⟩
      have R2 := R.step pa fa na sb2 hs2 (Nat.le_refl i)
      refine ⟨fun σ' H' => ∃ (z : Str), Drawn z ∧ σ' = [some (.ref a), some (.int many), some (.ref kl), some (.ref pl), some (.ref p), some (.ref fl), some (.ref nl), some (.int (0 + i)), some (.str z), vki, vf] ∧ H' = H2, ?_, ?_⟩
      · refine ⟨_, rfl, _, rfl, nl, _, rfl, .inl (SqL.of R2.hn), rfl, flat_strs _, _, rfl, ?_⟩
        refine ite2 (fun _ => ?_) (fun _ => ?_)
        · obtain ⟨c, hc, lc⟩ := sign_at low_aj (r := (0 + (i : Int)) % 10) (by omega) (by rw [len_aj]; omega)
          obtain ⟨d, hd, ld⟩ := sign_at low_kp (r := ((0 + (i : Int)) / 10) % 6) (by omega) (by rw [len_kp]; omega)
          refine ⟨_, rfl, _, _, rfl, rfl, (by show (0 : Int) < 10; decide), _, _, c, rfl, rfl, by omega, by omega, by rw [len_aj]; omega, hc, _, _, rfl, rfl, (by show 2 ≤ sizeLine; decide), ?_⟩
          refine ⟨_, rfl, _, _, rfl, rfl, ⟨by decide, by decide⟩, _, _, rfl, rfl, (by show (0 : Int) < 6; decide), _, _, d, rfl, rfl, by omega, by omega, by rw [len_kp]; omega, hd, _, _, rfl, rfl, (by show 3 ≤ sizeLine; decide), ?_⟩
          exact ⟨_, ⟨.inr (.inr (.inl (by rw [len_cat, len_cat, len_q]; rfl))), low_cat (low_cat low_q lc) ld⟩, rfl, rfl⟩
        · exact ⟨z, hz, rfl, rfl⟩
      · rintro σ' H' ⟨z, hz, rfl, rfl⟩
        refine ⟨_, rfl, _, rfl, .inl ⟨a, kl, _, _, rfl, R2.st, by omega, hka, R2.sb.seqL hka hks, by simpa using k1, by simp; omega, fun v H3 hv hs3 sb3 _ => ?_⟩⟩
        obtain ⟨ki, hki, rfl⟩ := List.mem_map.mp hv
        have R3 := R2.step pa fa na sb3 hs3 (Nat.le_refl i)
        refine ⟨_, rfl, _, rfl, _, rfl, _, rfl, fl, _, rfl, SqL.of R3.hf, fun q1 hq1 => ⟨(by show 1 ≤ sizeLine; decide), fun q2 hq2 => ?_⟩⟩
        have q12 : q1 ≠ q2 := fun e => by rw [← e, upd_same] at hq2; cases hq2
        have hcl := cutV_length ((("top" : Str) :: fs).map V.str) (some (-4)) none
        have hfle : fs.length ≤ rs.length + 40 := by have := R.flen; omega
        refine ⟨q1, q2, _, _, rfl, rfl, by rw [upd_ne q12]; exact upd_same, upd_same, ?_, fun q3 hq3 => ?_⟩
        · refine szl ?_
          rw [List.length_map, List.length_cons] at hcl
          show _ + 1 ≤ 1000
          omega
        have s4 := (Same.new (o := .lst (cutV ((("top" : Str) :: fs).map V.str) (some (-4)) none)) hq1).trans ((Same.new (o := .lst [V.str ("top" : Str)]) hq2).trans (Same.new (o := .lst (cutV ((("top" : Str) :: fs).map V.str) (some (-4)) none ++ [V.str ("top" : Str)])) hq3))
        have R4 := R3.step pa fa na (SB.of s4) (hs3.same s4) (Nat.le_refl i)
        have q3a : q3 ≠ a := (((hs3.upd hq1).upd hq2).ne hq3).symm
        refine .inl ⟨a, q3, _, _, rfl, R4.st, by omega, q3a, SqL.of upd_same, by simp, ?_, fun v2 H5 hv2 hs5 sb5 _ => ?_⟩
        · rw [List.length_append]
          rw [List.length_map, List.length_cons] at hcl
          show _ + 1 ≤ 1000000
          omega
        obtain ⟨fo, hfo, rfl⟩ : ∃ fo : Str, (fo = ("top" : Str) ∨ fo ∈ fs) ∧ v2 = .str fo := by
          rcases List.mem_append.mp hv2 with h | h
          · obtain ⟨fo, h1, rfl⟩ := List.mem_map.mp (mem_cutV h)
            exact ⟨fo, List.mem_cons.mp h1, rfl⟩
          · exact ⟨_, .inl rfl, List.mem_singleton.mp h⟩
        have R5 := R4.step pa fa na sb5 hs5 (Nat.le_refl i)
        refine ⟨_, _, rfl, _, rfl, _, rfl, nl, _, rfl, .inl (SqL.of R5.hn), rfl, flat_strs _, _, rfl, ?_⟩
        have hin : (if true = true then !inV (.str z) ((("top" : Str) :: rs.map (·.nm)).map V.str) else inV (.str z) ((("top" : Str) :: rs.map (·.nm)).map V.str)) = !decide (z ∈ (("top" : Str) :: rs.map (·.nm))) := by
          rw [if_pos rfl, inV_strs]
        refine ite2 (fun hc => ?_) (fun _ => ?_)
        · have hc' : (if true = true then !inV (.str z) ((("top" : Str) :: rs.map (·.nm)).map V.str) else inV (.str z) ((("top" : Str) :: rs.map (·.nm)).map V.str)) = true := hc
          rw [hin] at hc'
          have hz' : z ∉ (("top" : Str) :: rs.map (·.nm)) := by simpa using hc'
          have l41 : ((("top" : Str) :: rs.map (·.nm)).map V.str).length ≤ 1000 := by rw [List.length_map, List.length_cons, List.length_map]; omega
          refine ⟨_, rfl, .inl ⟨rfl, _, SqL.of R5.hn⟩, _, rfl, nl, _, _, rfl, rfl, R5.hn, small1000 l41, ?_⟩
          have n1 : ∀ {b : Addr}, b ≠ nl → (upd H5 nl (.lst ((("top" : Str) :: rs.map (·.nm)).map V.str ++ [V.str z]))) b = H5 b := fun h => upd_ne h
          have st6 : Stm (upd H5 nl (.lst ((("top" : Str) :: rs.map (·.nm)).map V.str ++ [V.str z]))) a (n + 13 * (i : Int) + 9 + 1 + 1) := by
            obtain ⟨x, y, u, e, r⟩ := R5.st
            exact ⟨x, y, u, by rw [n1 na.symm]; exact e, r⟩
          have sb6 : SB a H (upd H5 nl (.lst ((("top" : Str) :: rs.map (·.nm)).map V.str ++ [V.str z]))) := fun b o hb e => by
            rw [n1 (fun q => by rw [q] at e; have := sp _ _ e; rw [upd_same] at this; have h2 := (Same.new (o := .lst []) hp).trans (Same.new (o := .lst [V.str ("top" : Str)]) hfl); have h3 := h2.free hnl; rw [h3] at e; cases e)]
            exact R5.sb b o hb e
          refine ⟨_, rfl, .inl ⟨rfl, _, SqL.of (by rw [n1 hpn]; exact R5.hp)⟩, _, rfl, _, rfl, _, rfl, _, rfl, _, rfl, .inl ⟨a, pl, _, _, rfl, st6, by omega, hpa, sb6.seqL hpa hps, by simpa using p1, by simp; omega, fun v3 H7 hv3 hs7 sb7 _ => ?_⟩⟩
          obtain ⟨pr, hpr, rfl⟩ := List.mem_map.mp hv3
          refine ⟨(by show 4 ≤ sizeLine; decide), fun t ht => ?_⟩
          have hp7 : H7 p = some (.lst (as.map V.ref)) := sb7 _ _ pa (by rw [n1 hpn]; exact R5.hp)
          have hf7 : H7 fl = some (.lst ((("top" : Str) :: fs).map V.str)) := sb7 _ _ fa (by rw [n1 hfn]; exact R5.hf)
          have hn7 : H7 nl = some (.lst ((("top" : Str) :: rs.map (·.nm)).map V.str ++ [V.str z])) := sb7 _ _ na upd_same
          have tp : p ≠ t := ne_of_none hp7 ht
          have tf : fl ≠ t := ne_of_none hf7 ht
          have tn : nl ≠ t := ne_of_none hn7 ht
          have ta : a ≠ t := hs7.ne ht
          have rows7 : RowsAt H7 as rs := ⟨R5.rows.len, fun j b r hb hr => sb7 _ _ (fun q => by
            obtain ⟨x, y, u, e, _⟩ := R5.st
            have e2 := R5.rows.at_ j b r hb hr
            rw [q, e] at e2; cases e2) (by rw [n1 (fun q => by have e2 := R5.rows.at_ j b r hb hr; rw [q, R5.hn] at e2; cases e2)]; exact R5.rows.at_ j b r hb hr)⟩
          have al : (as.map V.ref).length ≤ 1000 := by rw [List.length_map, R5.rows.len]; omega
          refine ⟨p, _, _, rfl, rfl, by rw [upd_ne tp]; exact hp7, small1000 al, ?_⟩
          have g : ∀ {b : Addr}, b ≠ p → b ≠ t → (upd (upd H7 t (.tup [V.str z, V.str fo, V.str ki, prV pr])) p (.lst (as.map V.ref ++ [V.ref t]))) b = H7 b := fun h1 h2 => by rw [upd_ne h1, upd_ne h2]
          have fits : Fits rs ⟨z, fo, ki, pr⟩ := ⟨hz.shape, fun q => hz' (List.mem_cons.mpr (.inl q)), fun q => hz' (List.mem_cons.mpr (.inr q)), hfo.imp id (fun h => mem_folders (R5.fsub _ h)), hkok ki hki, hpok pr hpr⟩
          have valS := R5.val.snoc fits
          have rowsT : ∀ {b : Addr} {xs : List V}, H7 b = some (.tup xs) → (upd (upd H7 t (.tup [V.str z, V.str fo, V.str ki, prV pr])) p (.lst (as.map V.ref ++ [V.ref t]))) b = some (.tup xs) := fun {b xs} h => by
            rw [g (fun y => by rw [y, hp7] at h; cases h) (ne_of_none h ht)]; exact h
          have rows8 : RowsAt (upd (upd H7 t (.tup [V.str z, V.str fo, V.str ki, prV pr])) p (.lst (as.map V.ref ++ [V.ref t]))) (as ++ [t]) (rs ++ [⟨z, fo, ki, pr⟩]) := RowsAt.snoc ⟨rows7.len, fun j b r hb hr => rowsT (rows7.at_ j b r hb hr)⟩ (Eq.trans (upd_ne tp.symm) upd_same)
          have ep8 : (upd (upd H7 t (.tup [V.str z, V.str fo, V.str ki, prV pr])) p (.lst (as.map V.ref ++ [V.ref t]))) p = some (.lst ((as ++ [t]).map V.ref)) := by rw [upd_same, List.map_append]; rfl
          have ef8 := Eq.trans (g hpf.symm tf) hf7
          have en8 := Eq.trans (g hpn.symm tn) hn7
          have ea8 : ∀ {b : Addr} {o : HO}, b ≠ a → H b = some o → (upd (upd H7 t (.tup [V.str z, V.str fo, V.str ki, prV pr])) p (.lst (as.map V.ref ++ [V.ref t]))) b = some o := fun {b o} hb eb => by
            have e0 := sb7 b o hb (sb6 b o hb eb)
            rw [g (fun x => by rw [x, hp] at eb; cases eb) (ne_of_none e0 ht)]
            exact e0
          have st8 := hs7
          have es8 : (upd (upd H7 t (.tup [V.str z, V.str fo, V.str ki, prV pr])) p (.lst (as.map V.ref ++ [V.ref t]))) a = H7 a := g pa.symm ta
          generalize upd (upd H7 t (.tup [V.str z, V.str fo, V.str ki, prV pr])) p (.lst (as.map V.ref ++ [V.ref t])) = H8 at rows8 ep8 ef8 en8 ea8 es8
          have nfl : ∀ {b : Addr} {o : HO}, H b = some o → b ≠ fl := fun {b o} eb x => by rw [x, (Same.new (o := .lst []) hp).free hfl] at eb; cases eb
          have fin : ∀ (fs' : List Str) (H9 : Hp), (∀ y ∈ fs', y ∈ folderNames (rs ++ [⟨z, fo, ki, pr⟩])) → fs'.length ≤ i + 1 → (∀ b o, b ≠ fl → H8 b = some o → H9 b = some o) → H9 fl = some (.lst ((("top" : Str) :: fs').map V.str)) →
              RowsJ a p fl nl H H9 ks ps (n + 13 * ((i + 1 : Nat) : Int)) (i + 1) (as ++ [t]) (rs ++ [⟨z, fo, ki, pr⟩]) fs' := by
            intro fs' H9 hsub hlen hk hf9
            refine ⟨hk _ _ hpf ep8, hf9, hsub, hlen, ?_, ⟨rows8.len, fun j b r hb hr => hk _ _ (fun x => by have := rows8.at_ j b r hb hr; rw [x, ef8] at this; cases this) (rows8.at_ j b r hb hr)⟩, valS, by simp; omega, fun r hr => ?_, fun b o hb eb => hk _ _ (nfl eb) (ea8 hb eb), ?_⟩
            · rw [hk _ _ hfn.symm en8]; simp
            · rcases List.mem_append.mp hr with h | h
              · exact R5.mem r h
              · rw [List.mem_singleton.mp h]; exact ⟨hki, hpr, hz⟩
            · obtain ⟨x1, y1, u1, e1, r1⟩ := st8
              exact ⟨x1, y1, u1, hk _ _ fa.symm (es8.trans e1), r1.1, r1.2.1, r1.2.2.1, r1.2.2.2.1, by have := r1.2.2.2.2; push_cast; omega⟩
          have sub0 : ∀ y ∈ fs, y ∈ folderNames (rs ++ [⟨z, fo, ki, pr⟩]) := fun y hy => by
            rw [folders_snoc]
            exact List.mem_append_left _ (R5.fsub y hy)
          have flen5 := R5.flen
          refine ⟨_, rfl, rfl, _, rfl, ?_⟩
          refine ite2 (fun hk => ?_) (fun hk => ?_)
          · have hk' : ki = ("folder" : Str) := V.str.inj (of_decide_eq_true hk)
            refine ⟨_, rfl, _, rfl, p, z, _, rfl, ⟨_, ep8, rows8⟩, valS, by rw [List.length_append]; show _ + 1 ≤ 100; omega, .inr (List.mem_map.mpr ⟨⟨z, fo, ki, pr⟩, List.mem_append_right _ (List.mem_singleton.mpr rfl), rfl⟩), fun Dw H9 hDw s9 e9 => ?_⟩
            refine ⟨Dw, _, rfl, .inl (SqL.of e9), _, _, rfl, rfl, _, rfl, ?_⟩
            have ef9 := s9 _ _ ef8
            refine ite2 (fun _ => ?_) (fun _ => ?_)
            · refine ⟨_, rfl, .inl ⟨rfl, _, SqL.of ef9⟩, _, rfl, fl, _, _, rfl, rfl, ef9, small1000 (by rw [List.length_map, List.length_cons]; omega), ?_⟩
              refine ⟨_, _, fs ++ [z], _, _, _, _, rfl, fin (fs ++ [z]) _ (fun y hy => ?_) (by rw [List.length_append]; show _ + 1 ≤ _; omega) (fun b o nb e => by rw [upd_ne nb]; exact s9 _ _ e) ?_⟩
              · rcases List.mem_append.mp hy with hy | hy
                · exact sub0 y hy
                · rw [folders_snoc, List.mem_singleton.mp hy]
                  exact List.mem_append_right _ (by rw [if_pos hk']; exact List.mem_singleton.mpr rfl)
              · rw [upd_same]; simp
            · exact ⟨_, _, fs, _, _, _, _, rfl, fin fs H9 sub0 (by omega) (fun b o _ e => s9 _ _ e) ef9⟩
          · exact ⟨_, _, fs, _, _, _, _, rfl, fin fs H8 sub0 (by omega) (fun b o _ e => e) ef8⟩
        · exact ⟨as, rs, fs, _, _, _, _, rfl, R5.step pa fa na (SB.refl _ _) (R5.st.mono (by push_cast; omega)) (Nat.le_succ i)⟩
    · rintro σ H1 ⟨as, rs, fs, vk, vn, vki, vf, rfl, R⟩
      have e : ((many.toNat : Nat) : Int) = many := by omega
      exact ⟨_, rfl, hq p as rs H1 hp pa R.hp R.rows R.val (by have := R.len; omega) R.mem R.sb (by have := R.st; rw [e] at this; exact this)⟩
end
end Ts

set_option maxRecDepth 100000
set_option maxHeartbeats 4000000
namespace Ts
open PySem L2
def big9 : Int := 10 ^ (9 : Int).toNat
theorem big9_pos : (10 : Int) ≤ big9 := by decide +kernel
theorem merge_kvX {f : Str → V} : ∀ (l m : List Str), (m ++ l).Nodup → mergeK (kvX f m) (kvX f l) = kvX f (m ++ l)
  | [], m, _ => by rw [List.append_nil]; rfl
  | x :: l, m, h => by
    have hx : x ∉ m := fun hm => (List.nodup_append.mp h).2.2 x hm x (List.mem_cons_self ..) rfl
    have e1 : mergeK (kvX f m) (kvX f (x :: l)) = mergeK (putK (kvX f m) (.inr x) (f x)) (kvX f l) := rfl
    have e2 : putK (kvX f m) (.inr x) (f x) = kvX f (m ++ [x]) := by
      rw [putK_new _ (valV_kvX_none hx)]
      unfold kvX
      rw [List.map_append]
      rfl
    rw [e1, e2, merge_kvX l (m ++ [x]) (by rw [List.append_assoc]; exact h), List.append_assoc]
    rfl
theorem sqT_sb {K : PySem.W.Frag} {H H' : Hp} {a q : Addr} {n : Int} {xs : List V} (h : SqT K H q xs) (st : Stm H a n) (s : SB a H H') : SqT K H' q xs := by
  obtain ⟨x, y, z, e, _⟩ := st
  rcases h with (h | ⟨o, h⟩) | h
  · exact .inl (.inl (s _ _ (fun q => by rw [q, e] at h; cases h) h))
  · exact .inl (.inr ⟨o, s _ _ (fun q => by rw [q, e] at h; cases h) h⟩)
  · exact .inr h
def spLRange : Sp := fun vs H Q _ => ∃ (a : Addr) (n : Int), vs = [.ref a] ∧ Stm H a n ∧ n ≤ 1000000000 ∧ ∀ (l : Addr) (q : Rg) (H' : Hp), H l = none → l ≠ a → H' l = some (.tup (rgV q)) → q.ok → SB a H H' → Stm H' a (n + 3) → Q (.ref l) H'
section
variable {P : Program} {w : World} {K : PySem.W.Frag} {mg : Str → Option Value} {base : Heap} {C CM CC CL CS : Addr}
abbrev pSm : List Str := ["_law_stream_here", "_law_things"]
abbrev pDw : List Str := ["_law_stream_here", "_law_many"]
abbrev nLRg : List Str := ["_law_stream_here", "_law_least"]
theorem sc_LRg : FnScope nLRg ["_law_stream_here"] (defScope s_L_range) := ⟨rfl, rfl, rfl, by decide +kernel, rfl, by decide +kernel, by decide +kernel⟩
theorem ok_LRg (D : DefAt K mg "_law_range" s_L_range ["_law_stream_here"]) (B : TxB mg) (Dd : DefAt K mg "_law_draw" s_L_draw pDw) (Dp : DefAt K mg "_law_pick" s_L_pick pSm) (Gp : FnOk P w K mg base CX0 3 Dp.f Dp.fd pSm (spPick K)) : FnOk P w K mg base CX0 4 D.f D.fd ["_law_stream_here"] spLRange := by
  have Gd : FnOk P w K mg base CX0 2 Dd.f Dd.fd pDw spDraw := ok_draw Dd B
  refine D.F.ok sc_LRg (fun vs H Q E h => ?_) (fun cdv A outer s H vs Q E hr h => ?_)
  · obtain ⟨a, n, rfl, _⟩ := h
    rfl
  · obtain ⟨a, n, rfl, hst, hn, hq⟩ := h
    have r2 : Room 2 _ := hr.mono (by decide)
    refine ⟨_, pss_cons (ps_if (pt_cmpR op_eq (pe_call Gd r2 rfl Dd.g Dd.F.kp Dd.b .nil pass0 (pa_cons (pv 0) (pa_cons pe_int pa_nil))) pe_int (nomark _)) (pss_one (ps_ret (pe_tup (pa_cons (pe_op op_pow pe_int pe_int) (pa_cons (pe_call Gp hr rfl Dp.g Dp.F.kp Dp.b .nil pass0 (pa_cons (pv 0) (pa_cons (pe_lst (pa_cons (pe_op op_pow pe_int pe_int) (pa_cons pe_non pa_nil))) pa_nil))) pa_nil))))) pss_nil)
      (pss_cons (ps_set (i := 1) sc_LRg.nd rfl (.inl rfl) (pe_call Gp hr rfl Dp.g Dp.F.kp Dp.b .nil pass0 (pa_cons (pv 0) (pa_cons (pe_lst (pa_cons pe_int (pa_cons pe_int (pa_cons pe_int (pa_cons pe_int (pa_cons pe_int pa_nil)))))) pa_nil))))
      (pss_one (ps_ret (pe_tup (pa_cons (pv 1) (pa_cons (pe_call Gp hr rfl Dp.g Dp.F.kp Dp.b .nil pass0 (pa_cons (pv 0) (pa_cons (pe_lst (pa_cons (pv 1) (pa_cons (pe_op op_add (pv 1) pe_int) (pa_cons (pe_op op_add (pv 1) pe_int) (pa_cons (pe_op op_pow pe_int pe_int) (pa_cons pe_non pa_nil)))))) pa_nil))) pa_nil)))))), ?_⟩
    refine ⟨_, rfl, a, 9, n, rfl, hst, by omega, by decide, by decide, fun r H1 r0 r1 st1 he1 => ⟨rfl, _, rfl, ?_⟩⟩
    have sb1 := sb_eq (H := H) he1
    have fin : ∀ (lo : Int) (o : Option Int) (H2 : Hp), SB a H H2 → Stm H2 a (n + 3) → (∀ b, H b = none → b ≠ a → True) → (⟨lo, o⟩ : Rg).ok → ∀ l, H2 l = none → (∀ b oo, H b = some oo → b ≠ l) → Q (.ref l) (upd H2 l (.tup (rgV ⟨lo, o⟩))) := by
      intro lo o H2 sb st _ ok l hl nl
      have nla : l ≠ a := (st.ne hl).symm
      have hl0 : H l = none := by
        cases e : H l with
        | none => rfl
        | some oo => exact absurd rfl (nl l oo e)
      exact hq l ⟨lo, o⟩ _ hl0 nla upd_same ok (sb.trans (SB.of (Same.new hl))) (st.upd hl)
    have fresh : ∀ (H2 : Hp), SB a H H2 → Stm H2 a (n + 3) → ∀ l, H2 l = none → ∀ b oo, H b = some oo → b ≠ l := fun H2 sb st l hl b oo e q => by
      by_cases qa : b = a
      · rw [q] at qa
        exact (st.ne hl) qa.symm
      · rw [← q] at hl
        rw [sb b oo qa e] at hl
        cases hl
    refine ite2 (fun _ => ?_) (fun _ => ?_)
    · refine ⟨_, _, rfl, rfl, ⟨by decide, by decide, by decide⟩, ?_⟩
      refine ⟨_, rfl, _, _, rfl, rfl, ⟨by decide, by decide, by decide⟩, (by show 2 ≤ sizeLine; decide), fun pl hpl => ?_⟩
      have np : pl ≠ a := (st1.ne hpl).symm
      refine .inl ⟨a, pl, n + 1, [V.int ((10 : Int) ^ (9 : Int).toNat), V.non], rfl, st1.same (Same.new hpl), by omega, np, SqL.of upd_same, (by show 1 ≤ 2; decide), (by show 2 ≤ 1000000; decide), fun v H3 hv st3 sb3 _ => ?_⟩
      have sb : SB a H H3 := (sb1.trans (SB.of (Same.new hpl))).trans sb3
      have st : Stm H3 a (n + 3) := st3.mono (by omega)
      obtain ⟨o, rfl, ho⟩ : ∃ o, v = prV o ∧ (⟨(10 : Int) ^ (9 : Int).toNat, o⟩ : Rg).ok := by
        simp only [List.mem_cons, List.not_mem_nil, or_false] at hv
        rcases hv with rfl | rfl
        · exact ⟨some _, rfl, ⟨by decide +kernel, fun h e => by cases e; exact Int.le_refl _⟩⟩
        · exact ⟨none, rfl, ⟨by decide +kernel, fun h e => by cases e⟩⟩
      exact ⟨(by show 2 ≤ sizeLine; decide), fun l hl => fin _ o H3 sb st (fun _ _ _ => trivial) ho l hl (fresh H3 sb st l hl)⟩
    · refine ⟨_, rfl, (by show 5 ≤ sizeLine; decide), fun pl hpl => ?_⟩
      have np : pl ≠ a := (st1.ne hpl).symm
      refine .inl ⟨a, pl, n + 1, [V.int 0, V.int 0, V.int 0, V.int 1, V.int 3], rfl, st1.same (Same.new hpl), by omega, np, SqL.of upd_same, (by show 1 ≤ 5; decide), (by show 5 ≤ 1000000; decide), fun v H3 hv st3 sb3 _ => ?_⟩
      have sb : SB a H H3 := (sb1.trans (SB.of (Same.new hpl))).trans sb3
      obtain ⟨lo, rfl, h0, h3⟩ : ∃ lo : Int, v = .int lo ∧ 0 ≤ lo ∧ lo ≤ 3 := by
        simp only [List.mem_cons, List.not_mem_nil, or_false] at hv
        rcases hv with rfl | rfl | rfl | rfl | rfl <;> exact ⟨_, rfl, by decide, by decide⟩
      refine ⟨_, rfl, _, rfl, _, rfl, _, rfl, _, _, rfl, rfl, _, rfl, _, _, rfl, rfl, _, _, rfl, rfl, ⟨by decide, by decide, by decide⟩, (by show 5 ≤ sizeLine; decide), fun p2 hp2 => ?_⟩
      have np2 : p2 ≠ a := (st3.ne hp2).symm
      refine .inl ⟨a, p2, n + 1 + 1, [V.int lo, V.int (lo + 1), V.int (lo + 4), V.int ((10 : Int) ^ (9 : Int).toNat), V.non], rfl, st3.same (Same.new hp2), by omega, np2, SqL.of upd_same, (by show 1 ≤ 5; decide), (by show 5 ≤ 1000000; decide), fun v H4 hv2 st4 sb4 _ => ?_⟩
      have sbb : SB a H H4 := (sb.trans (SB.of (Same.new hp2))).trans sb4
      have st : Stm H4 a (n + 3) := st4.mono (by omega)
      have big := big9_pos
      obtain ⟨o, rfl, ho⟩ : ∃ o, v = prV o ∧ (⟨lo, o⟩ : Rg).ok := by
        simp only [List.mem_cons, List.not_mem_nil, or_false] at hv2
        rcases hv2 with rfl | rfl | rfl | rfl | rfl
        · exact ⟨some _, rfl, ⟨h0, fun h e => by cases e; exact Int.le_refl _⟩⟩
        · exact ⟨some _, rfl, ⟨h0, fun h e => by cases e; show lo ≤ lo + 1; omega⟩⟩
        · exact ⟨some _, rfl, ⟨h0, fun h e => by cases e; show lo ≤ lo + 4; omega⟩⟩
        · exact ⟨some _, rfl, ⟨h0, fun h e => by cases e; show lo ≤ big9; omega⟩⟩
        · exact ⟨none, rfl, ⟨h0, fun h e => by cases e⟩⟩
      exact ⟨(by show 2 ≤ sizeLine; decide), fun l hl => fin lo o H4 sbb st (fun _ _ _ => trivial) ho l hl (fresh H4 sbb st l hl)⟩
end
end Ts

set_option maxRecDepth 100000
set_option maxHeartbeats 4000000
namespace Ts
open PySem L2
def kinds6 : List Str := ["folder", "folder", "item", "item", "item", "shut"]
def prices4 : List (Option Int) := [some 1, some 2, some 5, none]
theorem kinds6_ok : ∀ k ∈ kinds6, k ∈ kinds3 := by decide +kernel
theorem prices4_ok : ∀ q ∈ prices4, PriceOk q := by
  intro q hq
  simp [prices4] at hq
  rcases hq with rfl | rfl | rfl | rfl <;> simp [PriceOk]
theorem sIx_nat (n d k : Nat) : HT.sIx n d (some (k : Int)) = min k n := by
  show (if (k : Int) < 0 then ((k : Int) + (n : Int)).toNat else min (k : Int).toNat n) = _
  rw [if_neg (by omega)]
  simp
theorem cutV_take (xs : List V) (k : Nat) : cutV xs none (some (k : Int)) = xs.take k := by
  unfold cutV
  rw [HT.sIx_none, List.drop_zero, sIx_nat, Nat.sub_zero, List.take_eq_take_iff]
  omega
theorem cutV_drop (xs : List V) (k : Nat) : cutV xs (some (k : Int)) none = xs.drop k := by
  unfold cutV
  rw [HT.sIx_none, sIx_nat]
  rcases Nat.le_total k xs.length with h | h
  · rw [Nat.min_eq_left h, List.take_of_length_le (by rw [List.length_drop]; exact Nat.le_refl _)]
  · rw [Nat.min_eq_right h, List.drop_of_length_le (Nat.le_refl _), List.drop_of_length_le h]
    simp
def shutL (rs : List Row) : List Str := (rs.filter fun r => decide (r.ki = ("shut" : Str))).map (·.nm)
def keepP (rs : List Row) (r : Row) : Bool := !decide (r.nm ∈ (shutL rs).drop 4)
theorem valid_keep {rs : List Row} (hv : Valid rs) : Valid (rs.filter (keepP rs)) := by
  refine hv.filter fun r hr hp q hq e => ?_
  unfold keepP
  rw [decide_eq_false]
  · rfl
  intro hm
  obtain ⟨q2, hq2, e2⟩ := List.mem_map.mp (List.mem_of_mem_drop hm)
  obtain ⟨h1, h2⟩ := List.mem_filter.mp hq2
  have hsh : q2.ki = ("shut" : Str) := of_decide_eq_true h2
  obtain ⟨i, hi, ei⟩ := List.mem_iff_getElem.mp hr
  have fit := hv i r (by rw [← ei]; exact List.getElem?_eq_getElem hi)
  rcases fit.home with h | ⟨q3, hq3, e3, k3⟩
  · rw [← e] at h
    obtain ⟨j, hj, ej⟩ := List.mem_iff_getElem.mp hq
    exact (hv j q (by rw [← ej]; exact List.getElem?_eq_getElem hj)).top h
  · have hm3 : q3 ∈ rs := List.mem_of_mem_take hq3
    have : q2 = q3 := names_inj hv h1 hm3 (by rw [e2, e3, e])
    rw [this, k3] at hsh
    exact absurd hsh (by decide +kernel)
theorem cut_four (l : List Str) : (l.filter fun z => !decide (z ∈ l.drop 4)).length ≤ 4 := by
  have h : ∀ m : List Str, (∀ z ∈ m, z ∈ l.drop 4) → (m.filter fun z => !decide (z ∈ l.drop 4)) = [] := fun m hm => List.filter_eq_nil_iff.mpr fun z hz => by simp [hm z hz]
  have e : (l.filter fun z => !decide (z ∈ l.drop 4)) = ((l.take 4).filter fun z => !decide (z ∈ l.drop 4)) ++ ((l.drop 4).filter fun z => !decide (z ∈ l.drop 4)) := by
    rw [← List.filter_append, List.take_append_drop]
  rw [e, h _ fun z hz => hz, List.append_nil]
  have h1 := List.length_filter_le (fun z => !decide (z ∈ l.drop 4)) (l.take 4)
  rw [List.length_take] at h1
  omega
theorem shut_four (rs : List Row) : (shutL (rs.filter (keepP rs))).length ≤ 4 := by
  have e : shutL (rs.filter (keepP rs)) = (shutL rs).filter fun z => !decide (z ∈ (shutL rs).drop 4) := by
    unfold shutL keepP
    rw [List.filter_map, List.filter_filter, List.filter_filter]
    congr 1
    refine List.filter_congr fun r _ => ?_
    rw [Bool.and_comm]
    rfl
  rw [e]
  exact cut_four _
theorem names_inj2 {rs : List Row} (h : Valid rs) {r : Row} (hr : r ∈ rs) : rowOf rs r.nm = some r := by
  obtain ⟨i, hi, e⟩ := List.mem_iff_getElem.mp hr
  exact rowOf_at h (by rw [← e]; exact List.getElem?_eq_getElem hi)
def spLCounted (K : PySem.W.Frag) : Sp := fun vs H Q _ => ∃ (a : Addr) (n : Int), vs = [.ref a] ∧ Stm H a n ∧ n ≤ 10000000 ∧ ∀ (tq p d : Addr) (as : List Addr) (rs : List Row) (L : List Str) (g : Str → Rg) (H' : Hp), p ≠ a → H' tq = some (.tup [.ref p, .ref d]) → H' p = some (.lst (as.map V.ref)) → RowsAt H' as rs → Valid rs → rs.length ≤ 13 → (shutL rs).length ≤ 4 → RgsT H' d L g →
  (∀ z ∈ L, (g z).ok ∧ ∃ r, rowOf rs z = some r ∧ r.ki = ("shut" : Str)) → L.length ≤ 4 → L.Nodup → SB a H H' → Stm H' a (n + 300) → Q (.ref tq) H'
section
variable {P : Program} {w : World} {K : PySem.W.Frag} {mg : Str → Option Value} {base : Heap} {C CM CC CL CS : Addr}
abbrev pRw : List Str := ["_law_stream_here", "_law_many", "_law_kinds", "_law_prices"]
abbrev nLCo : List Str := ["_law_stream_here", "_law_kinds", "_law_ranges", "_law_rows_here", "_law_shut", "_law_name_here", "_law_row"]
theorem sc_LCo : FnScope nLCo ["_law_stream_here"] (defScope s_L_counted) := ⟨rfl, rfl, rfl, by decide +kernel, rfl, by decide +kernel, by decide +kernel⟩
theorem ok_LCo (D : DefAt K mg "_law_counted" s_L_counted ["_law_stream_here"]) (B : TxB mg) (Dd : DefAt K mg "_law_draw" s_L_draw pDw) (Dr : DefAt K mg "_law_rows" s_L_rows pRw) (Gr : FnOk P w K mg base CX0 5 Dr.f Dr.fd pRw (spRows K))
    (Dso : DefAt K mg "_law_some" s_L_some pSm) (Gso : FnOk P w K mg base CX0 3 Dso.f Dso.fd pSm spLSome) (Drg : DefAt K mg "_law_range" s_L_range ["_law_stream_here"]) (Grg : FnOk P w K mg base CX0 4 Drg.f Drg.fd ["_law_stream_here"] spLRange) : FnOk P w K mg base CX0 6 D.f D.fd ["_law_stream_here"] (spLCounted K) := by
  have Gd : FnOk P w K mg base CX0 2 Dd.f Dd.fd pDw spDraw := ok_draw Dd B
  refine D.F.ok sc_LCo (fun vs H Q E h => ?_) (fun cdv A outer s H vs Q E hr h => ?_)
  · obtain ⟨a, n, rfl, _⟩ := h
    rfl
  · obtain ⟨a, n, rfl, hst, hn, hq⟩ := h
    have hu := hu_of hr
    have r2 : Room 2 _ := hr.mono (by decide)
    have r3 : Room 3 _ := hr.mono (by decide)
    have r4 : Room 4 _ := hr.mono (by decide)
    refine ⟨_, pss_cons (ps_par (i := 1) (j := 2) rfl sc_LCo.nd rfl rfl (by decide) rfl rfl (pa_cons (pe_lst (pa_cons pe_str (pa_cons pe_str (pa_cons pe_str (pa_cons pe_str (pa_cons pe_str (pa_cons pe_str pa_nil))))))) (pa_cons pe_dnewK pa_nil)) (by rfl))
      (pss_cons (ps_set (i := 3) sc_LCo.nd rfl (.inl rfl) (pe_call Gr hr rfl Dr.g Dr.F.kp Dr.b .nil pass0 (pa_cons (pv 0) (pa_cons (pe_call Gd r2 rfl Dd.g Dd.F.kp Dd.b .nil pass0 (pa_cons (pv 0) (pa_cons pe_int pa_nil))) (pa_cons (pv 1) (pa_cons (pe_lst (pa_cons pe_int (pa_cons pe_int (pa_cons pe_int (pa_cons pe_non pa_nil))))) pa_nil))))))
      (pss_cons (ps_set (i := 4) sc_LCo.nd rfl (.inr rfl) (pe_lc (own := [("_law_row", 6)]) (g := gName 6) (tt := tTest (tOp rEq (tOp (rIxT K) (tVar 6) (tC (.int 2))) (tC (.str ("shut" : Str))))) (te := tOp (rIxT K) (tVar 6) (tC (.int 0))) rfl sc_LCo.nd (pi_list (pv 3)) (blkOk_by (N := nLCo) (sc := defScope s_L_counted) (by decide +kernel))
        (fun _ _ _ _ _ => pg_name (i := 6) sc_LCo.nd rfl (Or.inl rfl)) (fun _ _ _ _ _ => by exact pts_one (pt_cmpR op_eq (pe_ix ix_tup (pv 6) pe_int (fun _ _ => rfl)) pe_str (nomark _))) (fun _ _ _ _ _ => by exact pe_ix ix_tup (pv 6) pe_int (fun _ _ => rfl))))
      (pss_cons (ps_for PassesOwn.never rfl (pi_list (pe_call Gso r3 rfl Dso.g Dso.F.kp Dso.b .nil pass0 (pa_cons (pv 0) (pa_cons (pe_slice sl_list (pv 4) po_none (po_some pe_int)) pa_nil)))) (pg_name (i := 5) sc_LCo.nd rfl (.inl rfl))
        (pss_one (ps_dput hu (pv 2) (pv 5) (pe_call Grg r4 rfl Drg.g Drg.F.kp Drg.b .nil pass0 (pa_cons (pv 0) pa_nil)) rfl)))
      (pss_one (ps_ret (pe_tup (pa_cons (pe_lc (own := [("_law_row", 6)]) (g := gName 6) (tt := tTest (tOp (rIn K true) (tOp (rIxT K) (tVar 6) (tC (.int 0))) (tSl (rSlL K) (tVar 4) (tPart (tC (.int 4))) tNoPart))) (te := tVar 6) rfl sc_LCo.nd (pi_list (pv 3)) (blkOk_by (N := nLCo) (sc := defScope s_L_counted) (by decide +kernel))
        (fun _ _ _ _ _ => pg_name (i := 6) sc_LCo.nd rfl (Or.inl rfl)) (fun _ _ _ _ _ => by exact pts_one (pt_cmpR op_notIn_seq (pe_ix ix_tup (pv 6) pe_int (fun _ _ => rfl)) (pe_slice sl_list (pv 4) (po_some pe_int) po_none) (by rfl))) (fun _ _ _ _ _ => pv 6)) (pa_cons (pv 2) pa_nil)))))))), ?_⟩
    refine ⟨(by show 6 ≤ sizeLine; decide), fun kl hkl => ?_⟩
    have s1 : Same H (upd H kl (.lst [V.str ("folder" : Str), V.str ("folder" : Str), V.str ("item" : Str), V.str ("item" : Str), V.str ("item" : Str), V.str ("shut" : Str)])) := Same.new hkl
    have e1 : (upd H kl (.lst [V.str ("folder" : Str), V.str ("folder" : Str), V.str ("item" : Str), V.str ("item" : Str), V.str ("item" : Str), V.str ("shut" : Str)])) kl = some (.lst [V.str ("folder" : Str), V.str ("folder" : Str), V.str ("item" : Str), V.str ("item" : Str), V.str ("item" : Str), V.str ("shut" : Str)]) := upd_same
    have nk : kl ≠ a := (hst.ne hkl).symm
    generalize upd H kl (.lst [V.str ("folder" : Str), V.str ("folder" : Str), V.str ("item" : Str), V.str ("item" : Str), V.str ("item" : Str), V.str ("shut" : Str)]) = H1 at s1 e1
    refine fun d hd => ⟨_, _, rfl, ?_⟩
    have s2 := s1.trans (Same.new (o := .dK []) hd)
    have e12 := (Same.new (o := .dK []) hd) _ _ e1
    have ed2 : (upd H1 d (.dK [])) d = some (.dK []) := upd_same
    have nda : d ≠ a := ((hst.same s1).ne hd).symm
    have hd0 := s1.free hd
    generalize upd H1 d (.dK []) = H2 at s2 e12 ed2
    have st2 := hst.same s2
    refine ⟨_, rfl, _, rfl, a, 13, n, rfl, st2, by omega, by decide, by decide, fun q H3 q0 q1 st3 he3 => ?_⟩
    have sb3 := sb_eq (H := H2) he3
    refine ⟨_, rfl, (by show 4 ≤ sizeLine; decide), fun pl hpl => ?_⟩
    have npl : pl ≠ a := (st3.ne hpl).symm
    have s4 : Same H3 (upd H3 pl (.lst [V.int 1, V.int 2, V.int 5, V.non])) := Same.new hpl
    have e4 : (upd H3 pl (.lst [V.int 1, V.int 2, V.int 5, V.non])) pl = some (.lst [V.int 1, V.int 2, V.int 5, V.non]) := upd_same
    generalize upd H3 pl (.lst [V.int 1, V.int 2, V.int 5, V.non]) = H4 at s4 e4
    have e14 := s4 _ _ (sb3 _ _ nk e12)
    refine ⟨a, kl, pl, q, n + 1, kinds6, prices4, rfl, st3.same s4, by omega, by omega, by omega, nk, npl, SqL.of e14, SqL.of e4, by decide, by decide, by decide, by decide, kinds6_ok, prices4_ok, fun p as rs H5 hp0 np hp hrows hv hl _ sb5 st5 => ?_⟩
    have sb25 : SB a H2 H5 := (sb3.trans (SB.of s4)).trans sb5
    have ed5 := sb25 _ _ nda ed2
    have hl12 : rs.length ≤ 12 := by omega
    have st5 : Stm H5 a (n + 200) := st5.mono (by omega)
    have npd : p ≠ d := fun e => by rw [e, ed5] at hp; cases hp
    have SB5 : SB a H H5 := (SB.of s2).trans sb25
    clear e14 e4 s4 sb5 sb3 he3 st3 hpl e12 hkl e1 s1 st2 ed2 sb25 s2
    -- the shut ones
    refine ⟨_, rfl, p, rfl, ⟨_, SqL.of hp⟩, fun D2 hD2 => ?_⟩
    refine lc_list (K := K) (a := p) (xs := as.map V.ref) (fun i H' => Same H5 H' ∧ H' D2 = some (.lst ((((rs.take i).filter fun r => decide (r.ki = ("shut" : Str))).map (·.nm)).map V.str))) ⟨Same.new hD2, upd_same⟩ (fun i H' _ m => SqL.of (m.1 _ _ hp)) ?_ ?_
    · rintro i x H8 hx ⟨s8, hD8⟩
      obtain ⟨ra, r, rfl, hra, hr', e0⟩ := rows_at hrows hx
      have e8 := s8 _ _ e0
      have szD : (((rs.take i).filter fun r => decide (r.ki = ("shut" : Str))).map (·.nm)).length ≤ 1000 := by
        rw [List.length_map]
        have h1 := List.length_filter_le (fun r => decide (r.ki = ("shut" : Str))) (rs.take i)
        rw [List.length_take] at h1
        omega
      refine ⟨rfl, _, rfl, ra, _, _, _, rfl, rfl, sqT e8, atI2 _ _ _ _, rfl, _, rfl, ?_⟩
      refine ite2 (fun hc => ?_) (fun hc => ?_)
      · have hc' : r.ki = ("shut" : Str) := V.str.inj (of_decide_eq_true hc)
        refine ⟨_, rfl, ra, _, _, _, rfl, rfl, sqT e8, atI0 _ _ _ _, _, hD8, by rw [List.length_map]; exact small1000 szD, fun b o eb => ?_, ?_⟩
        · rw [upd_ne (fun y => by rw [y, hD2] at eb; cases eb)]
          exact s8 _ _ eb
        · rw [upd_same, filter_take hr', if_pos (decide_eq_true hc'), List.map_append]; rfl
      · have hc' : ¬ r.ki = ("shut" : Str) := fun e => hc (decide_eq_true (by rw [e]))
        refine ⟨s8, ?_⟩
        rw [filter_take hr', if_neg (fun y => hc' (of_decide_eq_true y)), List.append_nil]
        exact hD8
    rintro H6 ⟨s6, e6⟩
    rw [List.length_map, hrows.len, List.take_length] at e6
    have e6 : H6 D2 = some (.lst ((shutL rs).map V.str)) := e6
    have n2 : D2 ≠ a := (st5.ne hD2).symm
    have n2d : D2 ≠ d := fun e => by rw [e, ed5] at hD2; cases hD2
    have hsl : (shutL rs).length ≤ 12 := by
      unfold shutL
      rw [List.length_map]
      exact Nat.le_trans (List.length_filter_le _ _) hl12
    -- some of the first four
    refine ⟨_, rfl, _, rfl, _, rfl, D2, _, rfl, SqL.of e6, fun u hu' => ?_⟩
    have ecut : cutV ((shutL rs).map V.str) none (some 4) = ((shutL rs).take 4).map V.str := by
      rw [show (some (4 : Int)) = some ((4 : Nat) : Int) from rfl, cutV_take, List.map_take]
    rw [ecut]
    have s7 := s6.trans (Same.new (o := .lst (((shutL rs).take 4).map V.str)) hu')
    have e7 : (upd H6 u (.lst (((shutL rs).take 4).map V.str))) u = some (.lst (((shutL rs).take 4).map V.str)) := upd_same
    have nua : u ≠ a := ((st5.same s6).ne hu').symm
    have e67 := (Same.new (o := .lst (((shutL rs).take 4).map V.str)) hu') _ _ e6
    generalize upd H6 u (.lst (((shutL rs).take 4).map V.str)) = H7 at s7 e7 e67
    have st7 := st5.same s7
    refine ⟨a, u, n + 200, (shutL rs).take 4, rfl, st7, by omega, nua, e7, by rw [List.length_take]; omega, fun D3 H8 ys hD3 n3 e8 hsub sb8 st8 => ?_⟩
    have l4 : ((shutL rs).take 4).length ≤ 4 := by rw [List.length_take]; omega
    have ly := hsub.length_le
    have ed8 := sb8 _ _ nda (s7 _ _ ed5)
    have n3d : D3 ≠ d := fun e => by rw [e, s7 _ _ ed5] at hD3; cases hD3
    have SB8 : SB a H H8 := (SB5.trans (SB.of s7)).trans sb8
    have hp8 := sb8 _ _ np (s7 _ _ hp)
    have e28 := sb8 _ _ n2 e67
    have rows8 := (hrows.same s7).kl (KL.sb st7 sb8)
    have hnd : ys.Nodup := List.Nodup.sublist hsub (List.Nodup.sublist (List.take_sublist _ _) (List.Nodup.sublist (List.Sublist.map _ List.filter_sublist) hv.nodup))
    refine ⟨D3, rfl, ⟨_, SqL.of e8⟩, ?_⟩
    refine for_list (K := K) (a := D3) (xs := ys.map V.str) (fun i σ H' => ∃ v5 : Option V, σ = [some (.ref a), some (.ref kl), some (.ref d), some (.ref p), some (.ref D2), v5, none] ∧ ∃ (g : Str → Rg) (ad : Str → Addr), H' d = some (.dK (kvX (fun z => V.ref (ad z)) (ys.take i))) ∧ (∀ z ∈ ys.take i, H' (ad z) = some (.tup (rgV (g z))) ∧ (g z).ok) ∧ (∀ b o, b ≠ a → b ≠ d → H8 b = some o → H' b = some o) ∧ Stm H' a (n + 212 + 3 * i)) ⟨_, rfl, fun _ => noI, fun _ => a, ed8, (fun z hz => by simp at hz), (fun _ _ _ _ e => e), st8.mono (by omega)⟩ (fun i σ H' _ ⟨_, _, _, _, _, _, k, _⟩ => SqL.of (k _ _ n3 n3d e8)) ?_ ?_
    · rintro i x σ H9 hx ⟨v5, rfl, g, ad, ed9, hg, keep, st9⟩
      rw [List.getElem?_map] at hx
      obtain ⟨y, hy, rfl⟩ := Option.map_eq_some_iff.mp hx
      have hi : i < ys.length := (List.getElem?_eq_some_iff.mp hy).1
      have hnew : y ∉ ys.take i := fun h => by
        obtain ⟨j, hj, ej⟩ := List.mem_take_iff_getElem.mp h
        have e3 : ys[i] = y := (List.getElem?_eq_some_iff.mp hy).2
        exact List.pairwise_iff_getElem.mp hnd j i (by omega) hi (by omega) (by rw [ej, e3])
      refine ⟨_, rfl, a, _, rfl, st9, by omega, fun l q H10 hl nl el hok sb10 st10 => ?_⟩
      have ed10 := sb10 _ _ nda ed9
      have nld : l ≠ d := fun e => by rw [e, ed9] at hl; cases hl
      refine ⟨_, rfl, _, rfl, d, _, rfl, DPut.k (k := Sum.inr y) ed10 (small1000 (by unfold kvX; rw [List.length_map, List.length_take]; omega)), _, rfl, fun u => if u = y then q else g u, fun u => if u = y then l else ad u, ?_, fun z hz => ?_, fun b o na nd e => by rw [upd_ne nd]; exact sb10 _ _ na (keep b o na nd e), ?_⟩
      · rw [upd_same, kvX_put hnew, take_more hy]
        congr 3
        funext u
        by_cases e : u = y
        · simp [e]
        · simp [e]
      · show (upd H10 d _) (if z = y then l else ad z) = some (.tup (rgV (if z = y then q else g z))) ∧ (if z = y then q else g z).ok
        by_cases e : z = y
        · rw [if_pos e, if_pos e, upd_ne nld]
          exact ⟨el, hok⟩
        · rw [if_neg e, if_neg e]
          rw [take_more hy] at hz
          have hz' : z ∈ ys.take i := by
            rcases List.mem_append.mp hz with h | h
            · exact h
            · exact absurd (List.mem_singleton.mp h) e
          obtain ⟨g1, g2⟩ := hg z hz'
          have n1 : ad z ≠ a := fun e => by
            obtain ⟨x9, y9, z9, ea9, _⟩ := st9
            rw [e, ea9] at g1
            cases g1
          have n2 : ad z ≠ d := fun e => by rw [e, ed9] at g1; cases g1
          exact ⟨by rw [upd_ne n2]; exact sb10 _ _ n1 g1, g2⟩
      · obtain ⟨x9, y9, z9, e9, k9⟩ := st10
        refine ⟨x9, y9, z9, by rw [upd_ne nda.symm]; exact e9, ?_⟩
        have en : n + 212 + 3 * ((i + 1 : Nat) : Int) = n + 212 + 3 * (i : Int) + 3 := by push_cast; omega
        rw [en]
        exact k9
    rintro σ H9 ⟨v5, rfl, g, ad, ed9, hg, keep, st9⟩
    rw [List.length_map, List.take_length] at ed9 hg
    have hp9 := keep _ _ np npd hp8
    have e29 := keep _ _ n2 n2d e28
    have rows9 : RowsAt H9 as rs := ⟨rows8.len, fun i b r hb hr' => by
      have h := rows8.at_ i b r hb hr'
      refine keep _ _ (fun e => ?_) (fun e => ?_) h
      · obtain ⟨x9, y9, z9, ea9, _⟩ := st8
        rw [e, ea9] at h
        cases h
      · rw [e, ed8] at h
        cases h⟩
    have st9 : Stm H9 a (n + 300) := st9.mono (by rw [List.length_map]; omega)
    have SB9 : SB a H H9 := fun b o nb e => keep b o nb (ne_of_none e hd0) (SB8 b o nb e)
    clear keep st8 rows8 e28 hp8 SB8 ed8 e8 sb8 e7 e67 s7 st7 SB5 ed5 hp hrows st5 e6 s6
    -- the rows that stay
    refine ⟨_, rfl, p, rfl, ⟨_, SqL.of hp9⟩, fun D4 hD4 => ?_⟩
    refine lc_list (K := K) (a := p) (xs := as.map V.ref) (fun i H' => ∃ qs : List Addr, Same H9 H' ∧ H' D4 = some (.lst (qs.map V.ref)) ∧ RowsAt H' qs ((rs.take i).filter (keepP rs))) ⟨[], Same.new hD4, upd_same, RowsAt.nil⟩ (fun i H' _ ⟨_, m, _⟩ => SqL.of (m _ _ hp9)) ?_ ?_
    · rintro i x H10 hx ⟨qs, s10, e10, r10⟩
      obtain ⟨ra, r, rfl, hra, hr', e0⟩ := rows_at rows9 hx
      refine ⟨rfl, _, rfl, ra, _, _, _, rfl, rfl, sqT (s10 _ _ e0), atI0 _ _ _ _, _, rfl, _, rfl, D2, _, rfl, SqL.of (s10 _ _ e29), fun w hw => ?_⟩
      have ecut : cutV ((shutL rs).map V.str) (some 4) none = ((shutL rs).drop 4).map V.str := by
        rw [show (some (4 : Int)) = some ((4 : Nat) : Int) from rfl, cutV_drop, List.map_drop]
      rw [ecut]
      have sw : Same H10 (upd H10 w (.lst (((shutL rs).drop 4).map V.str))) := Same.new hw
      have ew : (upd H10 w (.lst (((shutL rs).drop 4).map V.str))) w = some (.lst (((shutL rs).drop 4).map V.str)) := upd_same
      generalize upd H10 w (.lst (((shutL rs).drop 4).map V.str)) = H11 at sw ew
      refine ⟨w, _, rfl, .inl (SqL.of ew), rfl, flat_strs _, _, rfl, ?_⟩
      rw [if_pos rfl, inV_strs]
      have e11 := sw _ _ e10
      have r11 := r10.same sw
      have s11 := s10.trans sw
      have lq := r11.len
      have lt : ((rs.take i).filter (keepP rs)).length ≤ 200 := by
        have h1 := List.length_filter_le (keepP rs) (rs.take i)
        rw [List.length_take] at h1
        omega
      refine ite2 (fun hk => ?_) (fun hk => ?_)
      · refine ⟨_, rfl, _, e11, small1000 (by rw [List.length_map]; omega), qs ++ [ra], fun b o eb => ?_, by rw [upd_same, List.map_append]; rfl, ?_⟩
        · rw [upd_ne (fun y => by rw [y, hD4] at eb; cases eb)]
          exact s11 _ _ eb
        · rw [filt_more hr', if_pos (show keepP rs r = true from hk)]
          exact (r11.snoc (s11 _ _ e0)).kl (KL.upd e11)
      · refine ⟨qs, s11, e11, ?_⟩
        rw [filt_more hr', if_neg (show ¬ keepP rs r = true from hk), List.append_nil]
        exact r11
    rintro H10 ⟨qs, s10, e10, r10⟩
    rw [List.length_map, rows9.len, List.take_length] at r10
    have nD4 : D4 ≠ a := (st9.ne hD4).symm
    refine ⟨_, rfl, (by show 2 ≤ sizeLine; decide), fun tq htq => ?_⟩
    have st : Same H10 (upd H10 tq (.tup [V.ref D4, V.ref d])) := Same.new htq
    have s9t := s10.trans st
    refine hq tq D4 d qs (rs.filter (keepP rs)) ys g _ nD4 upd_same (st _ _ e10) (r10.same st) (valid_keep hv) ?_ (shut_four rs) ⟨ad, s9t _ _ ed9, fun z hz => s9t _ _ (hg z hz).1⟩ (fun z hz => ⟨(hg z hz).2, ?_⟩) (by omega) hnd (SB9.trans (SB.of s9t)) (st9.same s9t)
    · exact Nat.le_trans (List.length_filter_le _ _) (by omega)
    · have hz4 := hsub.subset hz
      obtain ⟨r, hr1, hr2⟩ := List.mem_map.mp (List.mem_of_mem_take hz4)
      obtain ⟨h1, h2⟩ := List.mem_filter.mp hr1
      have hk : keepP rs r = true := by
        unfold keepP
        rw [hr2, decide_eq_false]
        · rfl
        intro hd4
        have hnds : (shutL rs).Nodup := List.Nodup.sublist (List.Sublist.map _ List.filter_sublist) hv.nodup
        rw [← List.take_append_drop 4 (shutL rs)] at hnds
        exact (List.nodup_append.mp hnds).2.2 z hz4 z hd4 rfl
      refine ⟨r, ?_, of_decide_eq_true h2⟩
      rw [← hr2]
      exact names_inj2 (valid_keep hv) (List.mem_filter.mpr ⟨h1, hk⟩)
end
end Ts

set_option maxRecDepth 100000
set_option maxHeartbeats 4000000
namespace Ts
open PySem L2
/-! ### numbers out of ranges -/
def upN (q : Rg) (k : Int) : Bool := match q.hi with
  | none => true
  | some h => decide (k ≤ h)
def numsR (q : Rg) : List Int := [q.lo, q.lo + 1, q.lo + 9].filter (upN q)
theorem numsR_len (q : Rg) : (numsR q).length ≤ 3 := List.length_filter_le _ _
def setF (f : Str → Int) (z : Str) (k : Int) : Str → Int := fun y => if y = z then k else f y
/-- all choices of numbers, by name -/
def allF (pr : Str → Rg) (l : List Str) : List (Str → Int) := l.foldl (fun acc z => acc.flatMap fun f => (numsR (pr z)).map fun k => setF f z k) [fun _ => 0]
theorem allF_snoc (pr : Str → Rg) (l : List Str) (z : Str) : allF pr (l ++ [z]) = (allF pr l).flatMap fun f => (numsR (pr z)).map fun k => setF f z k := by
  unfold allF
  rw [List.foldl_append]
  rfl
def dcN (f : Str → Int) (l : List Str) : List (Key × V) := kvX (fun z => V.int (f z)) l
/-- dicts of numbers as they stand -/
structure DsF (H : Hp) (as : List Addr) (fs : List (Str → Int)) (l : List Str) : Prop where
  len : as.length = fs.length
  at_ : ∀ (i : Nat) (a : Addr) (f : Str → Int), as[i]? = some a → fs[i]? = some f → H a = some (.dK (dcN f l))
theorem DsF.same {H H' : Hp} {as : List Addr} {fs : List (Str → Int)} {l : List Str} (h : DsF H as fs l) (s : Same H H') : DsF H' as fs l := ⟨h.len, fun i a f x y => s _ _ (h.at_ i a f x y)⟩
def spWithN : Sp := fun vs H Q _ => ∃ (d : Addr) (z : Str) (k : Int) (f : Str → Int) (l : List Str), vs = [.ref d, .str z, .int k] ∧ H d = some (.dK (dcN f l)) ∧ z ∉ l ∧ l.length ≤ 100 ∧ ∀ D H', H D = none → Same H H' → H' D = some (.dK (dcN (setF f z k) (l ++ [z]))) → Q (.ref D) H'
def spNumsL (K : PySem.W.Frag) : Sp := fun vs H Q _ => ∃ (a : Addr) (q : Rg), vs = [.ref a] ∧ SqT K H a (rgV q) ∧ ∀ D H', H D = none → Same H H' → H' D = some (.lst ((numsR q).map V.int)) → Q (.ref D) H'
theorem dcN_put {f : Str → Int} {l : List Str} {z : Str} {k : Int} (hn : z ∉ l) : putK (dcN f l) (.inr z) (.int k) = dcN (setF f z k) (l ++ [z]) := by
  unfold dcN
  rw [kvX_put hn]
  unfold kvX setF
  refine List.map_congr_left fun y _ => ?_
  by_cases e : y = z
  · simp [e]
  · simp [e]
section
variable {P : Program} {w : World} {K : PySem.W.Frag} {mg : Str → Option Value} {base : Heap} {C CM CC CL CS : Addr}
abbrev pWi : List Str := ["_law_things", "_law_key", "_law_value"]
theorem sc_Lwith : FnScope ["_law_things", "_law_key", "_law_value", "_law_found"] pWi (defScope s_L_with) := ⟨rfl, rfl, rfl, by decide +kernel, rfl, by decide +kernel, by decide +kernel⟩
theorem ok_Lwith (D : DefAt K mg "_law_with" s_L_with pWi) (B : TxB mg) : FnOk P w K mg base CX0 1 D.f D.fd pWi spWithN := by
  refine D.F.ok sc_Lwith (fun vs H Q E h => ?_) (fun cdv A outer s H vs Q E hr h => ?_)
  · obtain ⟨d, z, k, f, l, rfl, _⟩ := h
    rfl
  · obtain ⟨d, z, k, f, l, rfl, hd, hz, hl, hq⟩ := h
    have hu := hu_of hr
    refine ⟨_, pss_cons (ps_set (i := 3) sc_Lwith.nd rfl (.inl rfl) (pe_callTy (T := "dict") call_dictD (by rfl) B.dict (by decide +kernel) (pa_cons (pv 0) pa_nil)))
      (pss_cons (ps_dput hu (pv 3) (pv 1) (pv 2) rfl)
      (pss_one (ps_ret (pv 3)))), ?_⟩
    refine ⟨_, rfl, d, _, rfl, .inl hd, fun D hD => ?_⟩
    have s1 : Same H (upd H D (.dK (dcN f l))) := Same.new hD
    have e1 : (upd H D (.dK (dcN f l))) D = some (.dK (dcN f l)) := upd_same
    generalize upd H D (.dK (dcN f l)) = H1 at s1 e1
    refine ⟨_, rfl, _, rfl, _, rfl, D, _, rfl, DPut.k (k := .inr z) e1 (small1000 (by unfold dcN kvX; rw [List.length_map]; omega)), ?_⟩
    rw [dcN_put hz]
    exact ⟨_, rfl, hq D _ hD (fun b o e => by rw [upd_ne (ne_of_none e hD)]; exact s1 _ _ e) upd_same⟩
abbrev nNu : List Str := ["_law_ends", "_law_least", "_law_most", "_law_k"]
theorem sc_Nu : FnScope nNu ["_law_ends"] (defScope s_L_numbers) := ⟨rfl, rfl, rfl, by decide +kernel, rfl, by decide +kernel, by decide +kernel⟩
theorem ok_Lnumbers (D : DefAt K mg "_law_numbers" s_L_numbers ["_law_ends"]) : FnOk P w K mg base CX0 1 D.f D.fd ["_law_ends"] (spNumsL K) := by
  refine D.F.ok sc_Nu (fun vs H Q E h => ?_) (fun cdv A outer s H vs Q E hr h => ?_)
  · obtain ⟨a, q, rfl, _⟩ := h
    rfl
  · obtain ⟨a, q, rfl, ha, hq⟩ := h
    refine ⟨_, pss_cons (ps_asg (pv 0) (pg_tup rfl (pgs_cons (pg_name (i := 1) sc_Nu.nd rfl (.inl rfl)) (pgs_cons (pg_name (i := 2) sc_Nu.nd rfl (.inr rfl)) pgs_nil))))
      (pss_one (ps_ret (pe_lc (own := [("_law_k", 3)]) (g := gName 3) (tt := tOr (tB (tIsN (tVar 2))) (tTest (tOp (rI0 fun i j => .bl (decide (i ≤ j))) (tVar 3) (tVar 2)))) (te := tVar 3) rfl sc_Nu.nd (pi_tup (pe_tup (pa_cons (pv 1) (pa_cons (pe_op op_add (pv 1) pe_int) (pa_cons (pe_op op_add (pv 1) pe_int) pa_nil))))) (blkOk_by (N := nNu) (sc := defScope s_L_numbers) (by decide +kernel))
          (fun _ _ _ _ _ => pg_name (i := 3) sc_Nu.nd rfl (Or.inl rfl)) (fun _ _ _ _ _ => by exact pts_one (PW.pt (pw_or (pt_cmp (pc_isN (pv 2))) (pw_or1 (pt_cmpR op_le (pv 3) (pv 2) (nomark _)))))) (fun _ _ _ _ _ => pv 3)))), ?_⟩
    refine ⟨_, rfl, a, rgV q, rfl, ha, rfl, _, _, rfl, _, _, rfl, rfl, ?_⟩
    refine ⟨_, rfl, _, rfl, q.lo, 1, rfl, rfl, _, rfl, q.lo, 9, rfl, rfl, (by show 3 ≤ sizeLine; decide), fun tl htl => ?_⟩
    have s1 : Same H (upd H tl (.tup [V.int q.lo, V.int (q.lo + 1), V.int (q.lo + 9)])) := Same.new htl
    have e1 : (upd H tl (.tup [V.int q.lo, V.int (q.lo + 1), V.int (q.lo + 9)])) tl = some (.tup ([q.lo, q.lo + 1, q.lo + 9].map V.int)) := upd_same
    generalize upd H tl (.tup [V.int q.lo, V.int (q.lo + 1), V.int (q.lo + 9)]) = H1 at s1 e1
    unfold numsR at hq
    generalize hls : [q.lo, q.lo + 1, q.lo + 9] = ls at e1 hq
    have lls : ls.length = 3 := by rw [← hls]; rfl
    refine ⟨tl, rfl, ⟨_, sqT e1⟩, fun D hD => ?_⟩
    refine lc_tup (K := K) (a := tl) (xs := ls.map V.int) (fun i H' => Same H1 H' ∧ H' D = some (.lst (((ls.take i).filter (upN q)).map V.int))) ⟨Same.new hD, upd_same⟩ (fun i H' _ m => sqT (m.1 _ _ e1)) ?_ ?_
    · rintro i x H2 hx ⟨s2, e2⟩
      rw [List.getElem?_map] at hx
      obtain ⟨k, hk, rfl⟩ := Option.map_eq_some_iff.mp hx
      have lt : ((ls.take i).filter (upN q)).length ≤ 200 := by
        have h1 := List.length_filter_le (upN q) (ls.take i)
        rw [List.length_take] at h1
        omega
      have step : ∀ b, b = upN q k → (if b = true then ∃ acc, H2 D = some (.lst acc) ∧ acc.length < sizeLine ∧ (Same H1 (upd H2 D (.lst (acc ++ [V.int k]))) ∧ (upd H2 D (.lst (acc ++ [V.int k]))) D = some (.lst (((ls.take (i + 1)).filter (upN q)).map V.int))) else (Same H1 H2 ∧ H2 D = some (.lst (((ls.take (i + 1)).filter (upN q)).map V.int)))) := fun b hb => by
        refine ite2 (fun hc => ?_) (fun hc => ?_)
        · refine ⟨_, e2, small1000 (by rw [List.length_map]; omega), fun o' ob eb => ?_, ?_⟩
          · rw [upd_ne (fun q => by rw [q, hD] at eb; cases eb)]
            exact s2 _ _ eb
          · rw [upd_same, take_more hk, List.filter_append, List.filter_cons_of_pos (by rw [← hb]; exact hc), List.map_append]; rfl
        · refine ⟨s2, ?_⟩
          rw [take_more hk, List.filter_append, List.filter_cons_of_neg (by rw [← hb]; exact hc), List.filter_nil, List.append_nil]
          exact e2
      refine ⟨rfl, _, rfl, _, rfl, ?_⟩
      cases hq2 : q.hi with
      | none =>
        rw [if_pos (by rfl)]
        have e0 := step true (by unfold upN; rw [hq2])
        rw [if_pos rfl] at e0
        exact iteT ⟨_, rfl, e0⟩
      | some h =>
        rw [if_neg (show ¬ decide (prV (some h) = V.non) = true by simp [prV])]
        refine ⟨_, rfl, _, rfl, k, h, rfl, rfl, _, rfl, ?_⟩
        have e0 := step (decide (k ≤ h)) (by unfold upN; rw [hq2])
        refine ite2 (fun hc => ?_) (fun hc => ?_)
        · rw [if_pos hc] at e0
          exact ⟨_, rfl, e0⟩
        · rw [if_neg hc] at e0
          exact e0
    rintro H2 ⟨s2, e2⟩
    rw [List.length_map, List.take_length] at e2
    exact hq D H2 (s1.free hD) (s1.trans s2) e2
end
end Ts

set_option maxRecDepth 100000
set_option maxHeartbeats 8000000
namespace Ts
open PySem L2
theorem flat_le {α β : Type} (f : α → List β) (l : List α) (j : Nat) : ((l.take j).flatMap f).length ≤ (l.flatMap f).length := by
  have e : l.flatMap f = (l.take j).flatMap f ++ (l.drop j).flatMap f := by rw [← List.flatMap_append, List.take_append_drop]
  rw [e, List.length_append]
  omega
theorem DsF.app {H : Hp} {as bs : List Addr} {fs gs : List (Str → Int)} {l : List Str} (h : DsF H as fs l) (k : DsF H bs gs l) : DsF H (as ++ bs) (fs ++ gs) l := by
  refine ⟨by rw [List.length_append, List.length_append, h.len, k.len], fun i a f ha hf => ?_⟩
  by_cases c : i < as.length
  · rw [List.getElem?_append_left c] at ha
    rw [List.getElem?_append_left (by rw [← h.len]; exact c)] at hf
    exact h.at_ i a f ha hf
  · rw [List.getElem?_append_right (by omega)] at ha
    rw [List.getElem?_append_right (by rw [← h.len]; omega), ← h.len] at hf
    exact k.at_ _ a f ha hf
theorem DsF.one {H : Hp} {a : Addr} {f : Str → Int} {l : List Str} (h : H a = some (.dK (dcN f l))) : DsF H [a] [f] l := ⟨rfl, fun i b g hb hg => match i, hb, hg with
  | 0, hb, hg => by cases hb; cases hg; exact h
  | n + 1, hb, hg => by cases hb⟩
theorem DsF.kl {H H' : Hp} {as : List Addr} {fs : List (Str → Int)} {l : List Str} (h : DsF H as fs l) (s : KL H H') : DsF H' as fs l := ⟨h.len, fun i a f x y => s _ _ (h.at_ i a f x y) (fun _ e => nomatch e)⟩
def spAllN (K : PySem.W.Frag) : Sp := fun vs H Q _ => ∃ (hd : Addr) (l : List Str) (pr : Str → Rg), vs = [.ref hd] ∧ PrsAt K H hd l pr ∧ l.Nodup ∧ l.length ≤ 100 ∧ (∀ i, (allF pr (l.take i)).length ≤ 100) ∧
  ∀ D as H', H D = none → Same H H' → H' D = some (.lst (as.map V.ref)) → DsF H' as (allF pr l) l → Q (.ref D) H'
section
variable {P : Program} {w : World} {K : PySem.W.Frag} {mg : Str → Option Value} {base : Heap} {C CM CC CL CS : Addr}
abbrev nAl : List Str := ["_law_ranges", "_law_found", "_law_name_here", "_law_longer", "_law_some_here", "_law_k"]
theorem sc_Al : FnScope nAl ["_law_ranges"] (defScope s_L_all_numbers) := ⟨rfl, rfl, rfl, by decide +kernel, rfl, by decide +kernel, by decide +kernel⟩
theorem ok_Lall (D : DefAt K mg "_law_all_numbers" s_L_all_numbers ["_law_ranges"]) (B : TxB mg) (Dw : DefAt K mg "_law_with" s_L_with pWi) (Dn : DefAt K mg "_law_numbers" s_L_numbers ["_law_ends"]) : FnOk P w K mg base CX0 2 D.f D.fd ["_law_ranges"] (spAllN K) := by
  have Gw : FnOk P w K mg base CX0 1 Dw.f Dw.fd pWi spWithN := ok_Lwith Dw B
  have Gn : FnOk P w K mg base CX0 1 Dn.f Dn.fd ["_law_ends"] (spNumsL K) := ok_Lnumbers Dn
  refine D.F.ok sc_Al (fun vs H Q E h => ?_) (fun cdv A outer s H vs Q E hr h => ?_)
  · obtain ⟨hd, l, pr, rfl, _⟩ := h
    rfl
  · obtain ⟨hd, l, pr, rfl, ⟨ad, h1, h2⟩, hnd, hl, hsz, hq⟩ := h
    have hu := hu_of hr
    refine ⟨_, pss_cons (ps_set (i := 1) sc_Al.nd rfl (.inl rfl) (pe_lst (pa_cons pe_dnewK pa_nil)))
      (pss_cons (ps_lock (ps_for PassesOwn.never rfl (pi_keys (pv 0)) (pg_name (i := 2) sc_Al.nd rfl (.inr rfl))
        (pss_cons (ps_set (i := 3) sc_Al.nd rfl (.inl rfl) (pe_lst pa_nil))
        (pss_cons (ps_for PassesOwn.never rfl (pi_list (pe_callTy (T := "list") call_list_of (by rfl) B.list (by decide +kernel) (pa_cons (pv 1) pa_nil))) (pg_name (i := 4) sc_Al.nd rfl (.inr rfl))
          (pss_one (ps_expr (pe_bm PySem.F.plainAttrs_list PySem.F.slot_list_extend PySem.F.type_list_extend mt_extend (pv 3) (pa_cons (pe_lc (own := [("_law_k", 5)]) (g := gName 5) (tt := tYes) (te := tCall spWithN [] E0 (tCons (tVar 4) (tCons (tVar 2) (tCons (tVar 5) tNil)))) rfl sc_Al.nd (pi_list (pe_call Gn hr rfl Dn.g Dn.F.kp Dn.b .nil pass0 (pa_cons (pe_dget hu (pv 0) (pv 2) (fun _ _ => rfl)) pa_nil))) (blkOk_by (N := nAl) (sc := defScope s_L_all_numbers) (by decide +kernel))
            (fun _ _ _ _ _ => pg_name (i := 5) sc_Al.nd rfl (Or.inl rfl)) (fun _ _ _ _ _ => pts_nil) (fun _ _ _ _ _ => by exact pe_call Gw hr rfl Dw.g Dw.F.kp Dw.b .nil pass0 (pa_cons (pv 4) (pa_cons (pv 2) (pa_cons (pv 5) pa_nil))))) pa_nil)))))
        (pss_one (ps_set (i := 1) sc_Al.nd rfl (.inl rfl) (pe_callTy (T := "list") call_list_of (by rfl) B.list (by decide +kernel) (pa_cons (pv 3) pa_nil))))))))
      (pss_one (ps_ret (pv 1)))), ?_⟩
    intro d0 hd0
    have s0 : Same H (upd H d0 (.dK [])) := Same.new hd0
    have e0 : (upd H d0 (.dK [])) d0 = some (.dK []) := upd_same
    generalize upd H d0 (.dK []) = H0 at s0 e0
    refine ⟨(by show 1 ≤ sizeLine; decide), fun f0 hf0 => ?_⟩
    have s1 : Same H0 (upd H0 f0 (.lst [V.ref d0])) := Same.new hf0
    have e1 : (upd H0 f0 (.lst [V.ref d0])) f0 = some (.lst ([d0].map V.ref)) := upd_same
    generalize upd H0 f0 (.lst [V.ref d0]) = H1 at s1 e1
    have S1 := s0.trans s1
    have D1 : DsF H1 [d0] (allF pr []) [] := DsF.one (s1 _ _ e0)
    have nf : f0 ≠ hd := (ne_of_none (s0 _ _ h1) hf0).symm
    have nd0 : d0 ≠ hd := (ne_of_none h1 hd0).symm
    have hn0 := s0.free hf0
    clear e0 s0 s1 hd0 hf0
    have h1' := S1 _ _ h1
    refine ⟨hd, _, h1', trivial, fun od => ?_⟩
    obtain ⟨Hl, El⟩ : ∃ Hx, Hx = upd H1 hd (.frz od (.dK (kvX (fun z => V.ref (ad z)) l))) := ⟨_, rfl⟩
    have lk : Hl hd = some (.frz od (.dK (kvX (fun z => V.ref (ad z)) l))) := by rw [El]; exact upd_same
    have keep : ∀ b o, H1 b = some o → b ≠ hd → Hl b = some o := fun b o e n => by rw [El, upd_ne n]; exact e
    have back : ∀ H', Same Hl H' → Same H1 (upd H' hd (.dK (kvX (fun z => V.ref (ad z)) l))) := fun H' s b o e => by
      by_cases q : b = hd
      · rw [q, upd_same, ← e, q]; exact h1'.symm
      · rw [upd_ne q]; exact s _ _ (keep b o e q)
    have tup : ∀ y ∈ l, ∀ H', Same Hl H' → SqT K H' (ad y) (rgV (pr y)) := fun y hy H' s => by
      rcases h2 y hy with (h | ⟨o, h⟩) | h
      · exact .inl (.inl (s _ _ (keep _ _ (S1 _ _ h) fun e => by rw [e, h1] at h; cases h)))
      · exact .inl (.inr ⟨o, s _ _ (keep _ _ (S1 _ _ h) fun e => by rw [e, h1] at h; cases h)⟩)
      · exact .inr h
    have e1l := keep _ _ e1 nf
    have D1l : DsF Hl [d0] (allF pr []) [] := DsF.one (keep _ _ (D1.at_ 0 d0 _ rfl rfl) nd0)
    rw [← El]
    clear El
    refine ⟨_, rfl, hd, od, rfl, .inl ⟨_, lk, ?_⟩⟩
    refine for_it (walk_keys (d := hd) (o := od) (kvs := kvX (fun z => V.ref (ad z)) l)) (fun i σ H' => ∃ (f : Addr) (as : List Addr) (v2 v3 v4 v5 : Option V), σ = [some (.ref hd), some (.ref f), v2, v3, v4, v5] ∧ Same Hl H' ∧ H' f = some (.lst (as.map V.ref)) ∧ f ≠ hd ∧ H f = none ∧ DsF H' as (allF pr (l.take i)) (l.take i)) ⟨f0, [d0], _, _, _, _, rfl, Same.refl _, e1l, nf, hn0, D1l⟩ (fun i σ H' _ ⟨_, _, _, _, _, _, _, s, _⟩ => s _ _ lk) ?_ ?_
    · rintro i x σ H2 H2' hi ⟨f, as, v2, v3, v4, v5, rfl, s2, ef, nfh, hnf, Df⟩ ⟨rfl, k', w', hk, rfl⟩
      obtain ⟨z, ez, hz⟩ := kvX_at hk
      cases ez
      have hzl := List.mem_of_getElem? hz
      have hzn : z ∉ l.take i := fun hm => by
        have n1 : (l.take (i + 1)).Nodup := List.Nodup.sublist (List.take_sublist _ _) hnd
        rw [take_more hz] at n1
        exact (List.nodup_append.mp n1).2.2 z hm z (List.mem_singleton.mpr rfl) rfl
      have hsn := hsz (i + 1)
      rw [take_more hz, allF_snoc] at hsn
      have lti : (l.take i).length ≤ 100 := Nat.le_trans (by rw [List.length_take]; omega) hl
      have las : as.length ≤ 100 := by rw [Df.len]; exact hsz i
      -- the longer ones
      refine ⟨(by show 0 ≤ sizeLine; decide), fun lg hlg => ?_⟩
      have s3 : Same H2' (upd H2' lg (.lst [])) := Same.new hlg
      have e3 : (upd H2' lg (.lst [])) lg = some (.lst []) := upd_same
      generalize upd H2' lg (.lst []) = H3 at s3 e3
      refine ⟨_, rfl, f, _, rfl, .inl (SqL.of (s3 _ _ ef)), fun cp hcp => ?_⟩
      have s4 : Same H3 (upd H3 cp (.lst (as.map V.ref))) := Same.new hcp
      have e4 : (upd H3 cp (.lst (as.map V.ref))) cp = some (.lst (as.map V.ref)) := upd_same
      have ncl : cp ≠ lg := (ne_of_none e3 hcp).symm
      generalize upd H3 cp (.lst (as.map V.ref)) = H4 at s4 e4
      have e34 := s4 _ _ e3
      have S4 : Same Hl H4 := s2.trans (s3.trans s4)
      have lgn : Hl lg = none := s2.free hlg
      have D4 := Df.same (s3.trans s4)
      have nlh : lg ≠ hd := (ne_of_none (s2 _ _ lk) hlg).symm
      have hlgH : H lg = none := by
        cases hh : H lg with
        | none => rfl
        | some o =>
          have := keep _ _ (S1 _ _ hh) nlh
          rw [lgn] at this
          cases this
      clear s3 e3 s4 hcp
      refine ⟨cp, rfl, ⟨_, SqL.of e4⟩, ?_⟩
      refine for_list (K := K) (a := cp) (xs := as.map V.ref) (fun j σ H' => ∃ (v4 v5 : Option V) (bs : List Addr), σ = [some (.ref hd), some (.ref f), some (.str z), some (.ref lg), v4, v5] ∧ SB lg H4 H' ∧ H' lg = some (.lst (bs.map V.ref)) ∧ DsF H' bs (((allF pr (l.take i)).take j).flatMap fun f => (numsR (pr z)).map fun k => setF f z k) (l.take i ++ [z]))
        ⟨_, _, [], rfl, SB.refl _ _, e34, ⟨rfl, fun i a f ha => by cases ha⟩⟩ (fun j σ H' _ ⟨_, _, _, _, sb, _⟩ => SqL.of (sb _ _ ncl e4)) ?_ ?_
      · rintro j x σ H5 hx ⟨v4', v5', bs, rfl, sb5, e5, D5⟩
        rw [List.getElem?_map] at hx
        obtain ⟨a, ha, rfl⟩ := Option.map_eq_some_iff.mp hx
        have hja : j < as.length := (List.getElem?_eq_some_iff.mp ha).1
        obtain ⟨fj, hfj⟩ : ∃ fj, (allF pr (l.take i))[j]? = some fj := ⟨_, List.getElem?_eq_getElem (by rw [← Df.len]; exact hja)⟩
        have eaj := sb5 _ _ (fun e => by have := D4.at_ j a fj ha hfj; rw [e, e34] at this; cases this) (D4.at_ j a fj ha hfj)
        have S5 : Same Hl H5 := fun b o e => sb5 b o (ne_of_none e lgn) (S4 b o e)
        have dg : DGet H5 hd (.str z) (some (.ref (ad z))) := .inl ⟨_, .inr z, .inr ⟨od, S5 _ _ lk⟩, rfl, (valV_kvX (fun z => V.ref (ad z)) hzl).symm⟩
        refine ⟨_, rfl, .inl ⟨rfl, _, SqL.of e5⟩, _, rfl, _, rfl, hd, _, rfl, dg, ad z, pr z, rfl, tup z hzl _ S5, fun nl H6 hnl s6 e6 => ⟨nl, rfl, ⟨_, SqL.of e6⟩, fun D hD => ?_⟩⟩
        have ln3 := numsR_len (pr z)
        refine lc_list (K := K) (a := nl) (xs := (numsR (pr z)).map V.int) (fun t H' => Same H6 H' ∧ ∃ cs : List Addr, H' D = some (.lst (cs.map V.ref)) ∧ DsF H' cs (((numsR (pr z)).take t).map fun k => setF fj z k) (l.take i ++ [z])) ⟨Same.new hD, [], upd_same, ⟨rfl, fun i a f ha => by cases ha⟩⟩ (fun t H' _ m => SqL.of (m.1 _ _ e6)) ?_ ?_
        · rintro t x H7 hx ⟨s7, cs, e7, D7⟩
          rw [List.getElem?_map] at hx
          obtain ⟨k, hk, rfl⟩ := Option.map_eq_some_iff.mp hx
          have lcs : cs.length ≤ 3 := by rw [D7.len, List.length_map, List.length_take]; omega
          refine ⟨rfl, tYes_if ⟨_, rfl, _, rfl, _, rfl, a, z, k, fj, l.take i, rfl, s7 _ _ (s6 _ _ eaj), hzn, lti, fun Dd H8 hDd s8 e8 => ⟨_, s8 _ _ e7, small1000 (by rw [List.length_map]; omega), fun o' ob eb => ?_, cs ++ [Dd], ?_, ?_⟩⟩⟩
          · rw [upd_ne (fun q => by rw [q, hD] at eb; cases eb)]
            exact s8 _ _ (s7 _ _ eb)
          · rw [upd_same, List.map_append]; rfl
          · have kD : KL H8 (upd H8 D (.lst (cs.map V.ref ++ [V.ref Dd]))) := fun b o e no => by
              rw [upd_ne (fun q => by rw [q, s8 _ _ e7] at e; exact no _ (Option.some.inj e).symm)]
              exact e
            rw [take_more hk, List.map_append]
            exact ((D7.same s8).app (DsF.one e8)).kl kD
        rintro H7 ⟨s7, cs, e7, D7⟩
        rw [List.length_map, List.take_length] at D7
        have lcs : cs.length ≤ 3 := by rw [D7.len, List.length_map]; exact ln3
        have s57 := s6.trans s7
        have lbs : bs.length ≤ 100 := by
          rw [D5.len]
          exact Nat.le_trans (flat_le _ _ _) hsn
        refine ⟨lg, D, _, _, rfl, rfl, s57 _ _ e5, e7, szl (by rw [List.length_map, List.length_map]; omega), ?_⟩
        have kU : KL H7 (upd H7 lg (.lst (bs.map V.ref ++ cs.map V.ref))) := fun b o e no => by
          rw [upd_ne (fun q => by rw [q, s57 _ _ e5] at e; exact no _ (Option.some.inj e).symm)]
          exact e
        refine ⟨_, _, bs ++ cs, rfl, fun b o n e => ?_, by rw [upd_same, List.map_append], ?_⟩
        · rw [upd_ne n]
          exact s57 _ _ (sb5 _ _ n e)
        · rw [take_more hfj, List.flatMap_append, List.flatMap_cons, List.flatMap_nil, List.append_nil]
          exact ((D5.same s57).app D7).kl kU
      rintro σ H5 ⟨v4', v5', bs, rfl, sb5, e5, D5⟩
      rw [List.length_map, Df.len, List.take_length] at D5
      have S5 : Same Hl H5 := fun b o e => sb5 b o (ne_of_none e lgn) (S4 b o e)
      have lbs : bs.length ≤ 100 := by rw [D5.len]; exact hsn
      refine ⟨_, rfl, lg, _, rfl, .inl (SqL.of e5), fun f2 hf2 => ?_⟩
      have s6 : Same H5 (upd H5 f2 (.lst (bs.map V.ref))) := Same.new hf2
      refine ⟨f2, bs, _, _, _, _, rfl, S5.trans s6, upd_same, (ne_of_none (S5 _ _ lk) hf2).symm, ?_, ?_⟩
      · cases hh : H f2 with
        | none => rfl
        | some o =>
          by_cases q : f2 = hd
          · rw [q, S5 _ _ lk] at hf2; cases hf2
          · have := S5 _ _ (keep _ _ (S1 _ _ hh) q)
            rw [hf2] at this
            cases this
      · rw [take_more hz, allF_snoc]
        exact D5.same s6
    · rintro σ H2 ⟨f, as, v2, v3, v4, v5, rfl, s2, ef, nfh, hnf, Df⟩
      have ek : (kvX (fun z => V.ref (ad z)) l).length = l.length := by unfold kvX; rw [List.length_map]
      rw [ek, List.take_length] at Df
      refine ⟨s2 _ _ lk, ?_⟩
      have s3 := S1.trans (back _ s2)
      refine ⟨_, rfl, hq f as _ hnf s3 (by rw [upd_ne nfh]; exact ef) ⟨Df.len, fun i a g ha hg => ?_⟩⟩
      have e1 := Df.at_ i a g ha hg
      rw [upd_ne (fun q => by rw [q, s2 _ _ lk] at e1; cases e1)]
      exact e1
end
end Ts

set_option maxRecDepth 100000
set_option maxHeartbeats 4000000
namespace Ts
open PySem L2
def sumB (f : Str → Int) (v : Str → Bool) (b : Bool) (l : List Str) : Int := ((l.filter fun y => if b then v y else !v y).map f).sum
/-- what is shown with some numbers -/
def wordF (v : Str → Bool) (l : List Str) (f : Str → Int) : Str := shownS (decide (0 < sumB f v true l)) (decide (0 < sumB f v false l))
def spSideN : Sp := fun vs H Q _ => ∃ (d vd : Addr) (f : Str → Int) (l : List Str) (rs : List Row) (v : Str → Bool), vs = [.ref d, .ref vd] ∧ H d = some (.dK (dcN f l)) ∧ l.length ≤ 100 ∧ (∀ y ∈ l, y ∈ plc rs) ∧ H vd = some (.dK (kvG rs v)) ∧ ∀ H', Same H H' → Q (.str (wordF v l f)) H'
theorem dc_ne {H : Hp} {d vd : Addr} {f : Str → Int} {l : List Str} {rs : List Row} {v : Str → Bool} (h1 : H d = some (.dK (dcN f l))) (h2 : H vd = some (.dK (kvG rs v))) : vd ≠ d := fun e => by
  rw [e, h1] at h2
  have e2 := HO.dK.inj (Option.some.inj h2)
  cases l with
  | nil => cases e2
  | cons y l =>
    have h3 := congrArg List.head? e2
    simp [dcN, kvX, kvG, plc] at h3
section
variable {P : Program} {w : World} {K : PySem.W.Frag} {mg : Str → Option Value} {base : Heap} {C CM CC CL CS : Addr}
abbrev pSd : List Str := ["_law_numbers_here", "_law_values"]
abbrev nSd : List Str := ["_law_numbers_here", "_law_values", "_law_ons", "_law_name_here"]
theorem sc_Sd : FnScope nSd pSd (defScope s_L_side_shows) := ⟨rfl, rfl, rfl, by decide +kernel, rfl, by decide +kernel, by decide +kernel⟩
theorem ok_Lside (D : DefAt K mg "_law_side_shows" s_L_side_shows pSd) (hS : mg "sum" = none) (Ds : DefAt K mg "_law_shown" s_L_shown ["_law_ons", "_law_offs"]) : FnOk P w K mg base CX0 2 D.f D.fd pSd spSideN := by
  have Gs : FnOk P w K mg base CX0 1 Ds.f Ds.fd ["_law_ons", "_law_offs"] spLShown := ok_Lshown Ds
  refine D.F.ok sc_Sd (fun vs H Q E h => ?_) (fun cdv A outer s H vs Q E hr h => ?_)
  · obtain ⟨d, vd, f, l, rs, v, rfl, _⟩ := h
    rfl
  · obtain ⟨d, vd, f, l, rs, v, rfl, hd1, hl, hsub, hv1, hq⟩ := h
    have hu := hu_of hr
    have nvd := dc_ne hd1 hv1
    refine ⟨_, pss_cons (ps_set (i := 2) sc_Sd.nd rfl (.inl rfl) (pe_callB (cr_sum rfl) (by rfl) hS (by decide +kernel) (pa_cons (pe_lock (pe_lc (own := [("_law_name_here", 3)]) (g := gName 3) (tt := tB (tDGet (tVar 1) (tVar 3))) (te := tDGet (tVar 0) (tVar 3)) rfl sc_Sd.nd (pi_keys (pv 0)) (blkOk_by (N := nSd) (sc := defScope s_L_side_shows) (by decide +kernel))
          (fun _ _ _ _ _ => pg_name (i := 3) sc_Sd.nd rfl (Or.inl rfl)) (fun _ _ _ _ _ => by exact pts_one (pt_val (pe_dget hu (pv 1) (pv 3) (fun _ _ => rfl)))) (fun _ _ _ _ _ => by exact pe_dget hu (pv 0) (pv 3) (fun _ _ => rfl)))) pa_nil)))
      (pss_one (ps_ret (pe_call Gs hr rfl Ds.g Ds.F.kp Ds.b .nil pass0 (pa_cons (pv 2) (pa_cons (pe_callB (cr_sum rfl) (by rfl) hS (by decide +kernel) (pa_cons (pe_lock (pe_lc (own := [("_law_name_here", 3)]) (g := gName 3) (tt := tNot (tB (tDGet (tVar 1) (tVar 3)))) (te := tDGet (tVar 0) (tVar 3)) rfl sc_Sd.nd (pi_keys (pv 0)) (blkOk_by (N := nSd) (sc := defScope s_L_side_shows) (by decide +kernel))
          (fun _ _ _ _ _ => pg_name (i := 3) sc_Sd.nd rfl (Or.inl rfl)) (fun _ _ _ _ _ => by exact pts_one (pt_not (pt_val (pe_dget hu (pv 1) (pv 3) (fun _ _ => rfl))))) (fun _ _ _ _ _ => by exact pe_dget hu (pv 0) (pv 3) (fun _ _ => rfl)))) pa_nil)) pa_nil))))), ?_⟩
    have q1 : ∀ {Qx : VK}, (∀ D1 G, H D1 = none → Same H G → G D1 = some (.lst (((l.filter fun y => v y).map f).map V.int)) → Qx (.ref D1) G) → ∃ dd uu, H dd = some uu ∧ Mut (some uu) ∧ ∀ od, (tLc (iKeys (tVar 0)) (gName 3) (tB (tDGet (tVar 1) (tVar 3))) (tDGet (tVar 0) (tVar 3)) [3]) (L2.start nSd [V.ref d, V.ref vd]) (upd H dd (.frz od uu)) fun v H' => H' dd = some (.frz od uu) ∧ Qx v (upd H' dd uu) := fun {Qx} qx => by
      refine ⟨d, _, hd1, trivial, fun od => ?_⟩
      obtain ⟨Hl, El⟩ : ∃ Hx, Hx = upd H d (.frz od (.dK (dcN f l))) := ⟨_, rfl⟩
      have lk : Hl d = some (.frz od (.dK (dcN f l))) := by rw [El]; exact upd_same
      have back : ∀ H', Same Hl H' → Same H (upd H' d (.dK (dcN f l))) := fun H' s b o e => by
        by_cases q : b = d
        · rw [q, upd_same, ← e, q]; exact hd1.symm
        · rw [upd_ne q]; exact s _ _ (by rw [El, upd_ne q]; exact e)
      have lv : Hl vd = some (.dK (kvG rs v)) := by rw [El, upd_ne nvd]; exact hv1
      have free : ∀ b, Hl b = none → H b = none := fun b e => by
        rw [El] at e
        by_cases q : b = d
        · rw [q, upd_same] at e; cases e
        · rw [upd_ne q] at e; exact e
      rw [← El]
      clear El
      refine ⟨_, rfl, d, od, rfl, .inl ⟨_, lk, fun D1 hD1 => ?_⟩⟩
      refine lc_it (walk_keys (d := d) (o := od) (kvs := dcN f l)) (fun i H' => Same Hl H' ∧ H' D1 = some (.lst ((((l.take i).filter fun y => v y).map f).map V.int))) ⟨Same.new hD1, upd_same⟩ (fun i H' _ m => m.1 _ _ lk) ?_ ?_
      · rintro i x H3 H4 hi ⟨s3, e3⟩ ⟨rfl, k', w', hk', rfl⟩
        obtain ⟨y, ey, hy⟩ := kvX_at hk'
        cases ey
        have hym := List.mem_of_getElem? hy
        have dg : DGet H4 vd (.str y) (some (.bl (v y))) := .inl ⟨_, .inr y, .inl (s3 _ _ lv), rfl, (valV_kvG v (hsub y hym)).symm⟩
        have dg2 : DGet H4 d (.str y) (some (.int (f y))) := .inl ⟨_, .inr y, .inr ⟨od, s3 _ _ lk⟩, rfl, (valV_kvX (fun z => V.int (f z)) hym).symm⟩
        have lt : ((l.take i).filter fun y => v y).length ≤ 200 := by
          have h1 := List.length_filter_le (fun y => v y) (l.take i)
          rw [List.length_take] at h1
          omega
        refine ⟨rfl, _, rfl, _, rfl, vd, _, rfl, dg, _, rfl, ?_⟩
        refine ite2 (fun hb => ?_) (fun hb => ?_)
        · refine ⟨_, rfl, _, rfl, d, _, rfl, dg2, _, e3, small1000 (by rw [List.length_map, List.length_map]; omega), fun o' ob eb => ?_, ?_⟩
          · rw [upd_ne (fun q => by rw [q, hD1] at eb; cases eb)]
            exact s3 _ _ eb
          · rw [upd_same, take_more hy, List.filter_append, List.filter_cons_of_pos (p := fun y => v y) hb, List.map_append, List.map_append]; rfl
        · refine ⟨s3, ?_⟩
          rw [take_more hy, List.filter_append, List.filter_cons_of_neg (p := fun y => v y) hb, List.filter_nil, List.append_nil]
          exact e3
      rintro H3 ⟨s3, e3⟩
      have ek : (dcN f l).length = l.length := by unfold dcN kvX; rw [List.length_map]
      rw [ek, List.take_length] at e3
      have nD : D1 ≠ d := (ne_of_none lk hD1).symm
      exact ⟨s3 _ _ lk, qx D1 _ (free _ hD1) (back _ s3) (by rw [upd_ne nD]; exact e3)⟩
    refine q1 fun D1 H1 hD1 s1 e1 => ?_
    refine ⟨D1, _, rfl, SqL.of e1, _, rfl, ?_⟩
    have hd2 := s1 _ _ hd1
    have hv2 := s1 _ _ hv1
    have q2 : ∀ {Qx : VK}, (∀ D1 G, H1 D1 = none → Same H1 G → G D1 = some (.lst (((l.filter fun y => !v y).map f).map V.int)) → Qx (.ref D1) G) → ∃ dd uu, H1 dd = some uu ∧ Mut (some uu) ∧ ∀ od, (tLc (iKeys (tVar 0)) (gName 3) (tNot (tB (tDGet (tVar 1) (tVar 3)))) (tDGet (tVar 0) (tVar 3)) [3]) ((L2.start nSd [V.ref d, V.ref vd]).set 2 (some (V.int (((l.filter fun y => v y).map f).sum)))) (upd H1 dd (.frz od uu)) fun v H' => H' dd = some (.frz od uu) ∧ Qx v (upd H' dd uu) := fun {Qx} qx => by
      refine ⟨d, _, hd2, trivial, fun od => ?_⟩
      obtain ⟨Hl, El⟩ : ∃ Hx, Hx = upd H1 d (.frz od (.dK (dcN f l))) := ⟨_, rfl⟩
      have lk : Hl d = some (.frz od (.dK (dcN f l))) := by rw [El]; exact upd_same
      have back : ∀ H', Same Hl H' → Same H1 (upd H' d (.dK (dcN f l))) := fun H' s b o e => by
        by_cases q : b = d
        · rw [q, upd_same, ← e, q]; exact hd2.symm
        · rw [upd_ne q]; exact s _ _ (by rw [El, upd_ne q]; exact e)
      have lv : Hl vd = some (.dK (kvG rs v)) := by rw [El, upd_ne nvd]; exact hv2
      have free : ∀ b, Hl b = none → H1 b = none := fun b e => by
        rw [El] at e
        by_cases q : b = d
        · rw [q, upd_same] at e; cases e
        · rw [upd_ne q] at e; exact e
      rw [← El]
      clear El
      refine ⟨_, rfl, d, od, rfl, .inl ⟨_, lk, fun D1 hD1 => ?_⟩⟩
      refine lc_it (walk_keys (d := d) (o := od) (kvs := dcN f l)) (fun i H' => Same Hl H' ∧ H' D1 = some (.lst ((((l.take i).filter fun y => !v y).map f).map V.int))) ⟨Same.new hD1, upd_same⟩ (fun i H' _ m => m.1 _ _ lk) ?_ ?_
      · rintro i x H3 H4 hi ⟨s3, e3⟩ ⟨rfl, k', w', hk', rfl⟩
        obtain ⟨y, ey, hy⟩ := kvX_at hk'
        cases ey
        have hym := List.mem_of_getElem? hy
        have dg : DGet H4 vd (.str y) (some (.bl (v y))) := .inl ⟨_, .inr y, .inl (s3 _ _ lv), rfl, (valV_kvG v (hsub y hym)).symm⟩
        have dg2 : DGet H4 d (.str y) (some (.int (f y))) := .inl ⟨_, .inr y, .inr ⟨od, s3 _ _ lk⟩, rfl, (valV_kvX (fun z => V.int (f z)) hym).symm⟩
        have lt : ((l.take i).filter fun y => !v y).length ≤ 200 := by
          have h1 := List.length_filter_le (fun y => !v y) (l.take i)
          rw [List.length_take] at h1
          omega
        refine ⟨rfl, _, rfl, _, rfl, vd, _, rfl, dg, _, rfl, ?_⟩
        refine ite2 (fun hb => ?_) (fun hb => ?_)
        · refine ⟨_, rfl, _, rfl, d, _, rfl, dg2, _, e3, small1000 (by rw [List.length_map, List.length_map]; omega), fun o' ob eb => ?_, ?_⟩
          · rw [upd_ne (fun q => by rw [q, hD1] at eb; cases eb)]
            exact s3 _ _ eb
          · rw [upd_same, take_more hy, List.filter_append, List.filter_cons_of_pos (p := fun y => !v y) hb, List.map_append, List.map_append]; rfl
        · refine ⟨s3, ?_⟩
          rw [take_more hy, List.filter_append, List.filter_cons_of_neg (p := fun y => !v y) hb, List.filter_nil, List.append_nil]
          exact e3
      rintro H3 ⟨s3, e3⟩
      have ek : (dcN f l).length = l.length := by unfold dcN kvX; rw [List.length_map]
      rw [ek, List.take_length] at e3
      have nD : D1 ≠ d := (ne_of_none lk hD1).symm
      exact ⟨s3 _ _ lk, qx D1 _ (free _ hD1) (back _ s3) (by rw [upd_ne nD]; exact e3)⟩
    refine q2 fun D2 H2 hD2 s2 e2 => ?_
    exact ⟨D2, _, rfl, SqL.of e2, _, _, rfl, hq H2 (s1.trans s2)⟩
end
end Ts

set_option maxRecDepth 100000
set_option maxHeartbeats 8000000
namespace Ts
open PySem L2
/-! ### lists of numbers as data -/
def intD (l : List Int) : PyData := .list (l.map PyData.int)
theorem iD_dp {K : PySem.W.Frag} {H : Hp} : ∀ (l : List Int), DpAll K H (l.map V.int) (l.map PyData.int)
  | [] => .nil
  | x :: l => .cons (.int _) (iD_dp l)
theorem iD_lay : ∀ (l : List Int), PyData.canLayAll0 (l.map PyData.int) = true
  | [] => by simp [PyData.canLayAll0]
  | d :: ds => by
    simp only [List.map_cons, PyData.canLayAll0, PyData.canLay0, Bool.true_and]
    exact iD_lay ds
theorem iD_depth : ∀ (l : List Int), PyData.depthAll (l.map PyData.int) = 0
  | [] => by simp [PyData.depthAll]
  | d :: ds => by simp only [List.map_cons, PyData.depthAll, PyData.depth, iD_depth ds]; rfl
theorem iD_shaped (l : List Int) : SeqAt.shaped (intD l) = true := by
  unfold SeqAt.shaped intD
  rw [Bool.and_eq_true]
  refine ⟨by simp only [PyData.canLay0]; exact iD_lay l, decide_eq_true ?_⟩
  simp only [PyData.depth, iD_depth]
  omega
theorem iD_eqv : ∀ (a b : List Int), PyData.eqvAll (a.map PyData.int) (b.map PyData.int) = decide (a = b)
  | [], [] => by simp [PyData.eqvAll]
  | [], _ :: _ => by simp [PyData.eqvAll]
  | _ :: _, [] => by simp [PyData.eqvAll]
  | x :: a, y :: b => by
    simp only [List.map_cons, PyData.eqvAll, PyData.eqv, iD_eqv a b]
    by_cases h1 : x = y <;> by_cases h2 : a = b <;> simp [h1, h2]
theorem rd_eqZ {K : PySem.W.Frag} {H : Hp} {p q : Addr} {l m : List Int} {Q : VK} (h1 : H p = some (.lst (l.map V.int))) (h2 : H q = some (.lst (m.map V.int))) (k : Q (.bl (decide (l = m))) H) : rEqD K (.ref p) (.ref q) H Q := by
  refine ⟨intD l, intD m, .lst (SqL.of h1) (iD_dp l), .lst (SqL.of h2) (iD_dp m), iD_shaped l, iD_shaped m, ?_⟩
  unfold intD
  simp only [PyData.eqv]
  rw [iD_eqv]
  exact k
/-! ### pairs of numbers and a word -/
def pwD (p : List Int × Str) : PyData := .tuple [intD p.1, .str p.2]
structure PsW (K : PySem.W.Frag) (H : Hp) (as : List Addr) (ps : List (List Int × Str)) : Prop where
  len : as.length = ps.length
  at_ : ∀ (i : Nat) (a : Addr) (p : List Int × Str), as[i]? = some a → ps[i]? = some p → ∃ r, H a = some (.tup [.ref r, .str p.2]) ∧ H r = some (.lst (p.1.map V.int))
theorem PsW.same {K : PySem.W.Frag} {H H' : Hp} {as : List Addr} {ps : List (List Int × Str)} (h : PsW K H as ps) (s : Same H H') : PsW K H' as ps := ⟨h.len, fun i a p x y => let ⟨r, h1, h2⟩ := h.at_ i a p x y; ⟨r, s _ _ h1, s _ _ h2⟩⟩
theorem PsW.dp {K : PySem.W.Frag} {H : Hp} : ∀ {as : List Addr} {ps : List (List Int × Str)}, PsW K H as ps → DpAll K H (as.map V.ref) (ps.map pwD)
  | [], [], _ => .nil
  | [], _ :: _, h => by cases h.len
  | _ :: _, [], h => by cases h.len
  | a :: as, p :: ps, h => by
    obtain ⟨r, h1, h2⟩ := h.at_ 0 a p rfl rfl
    exact .cons (.tup (sqT h1) (.cons (.lst (SqL.of h2) (iD_dp p.1)) (.cons (.str _) .nil))) (PsW.dp (as := as) (ps := ps) ⟨Nat.succ.inj h.len, fun i b q hb hq => h.at_ (i + 1) b q hb hq⟩)
theorem pr_lay : ∀ (ps : List (List Int × Str)), (∀ p ∈ ps, PyData.strOk p.2 = true) → PyData.canLayAll0 (ps.map pwD) = true
  | [], _ => by simp [PyData.canLayAll0]
  | p :: ps, h => by
    have h1 := h p (List.mem_cons_self ..)
    simp only [List.map_cons, PyData.canLayAll0, pwD, intD, PyData.canLay0, iD_lay, h1, Bool.and_true, Bool.true_and]
    exact pr_lay ps fun q hq => h q (List.mem_cons_of_mem _ hq)
theorem pr_depth : ∀ (ps : List (List Int × Str)), PyData.depthAll (ps.map pwD) ≤ 2
  | [] => by simp [PyData.depthAll]
  | p :: ps => by
    have ih := pr_depth ps
    simp only [List.map_cons, PyData.depthAll, pwD, intD, PyData.depth, iD_depth]
    omega
theorem pr_shaped {ps : List (List Int × Str)} (h : ∀ p ∈ ps, PyData.strOk p.2 = true) : SeqAt.shaped (.list (ps.map pwD)) = true := by
  have q := pr_depth ps
  unfold SeqAt.shaped
  rw [Bool.and_eq_true]
  refine ⟨by simp only [PyData.canLay0]; exact pr_lay ps h, decide_eq_true ?_⟩
  simp only [PyData.depth]
  omega
theorem nil_shaped : SeqAt.shaped (.list []) = true := by decide +kernel
theorem rd_neN {K : PySem.W.Frag} {H : Hp} {p q : Addr} {as : List Addr} {ps : List (List Int × Str)} {Q : VK} (h1 : H p = some (.lst (as.map V.ref))) (hp : PsW K H as ps) (ok : ∀ p ∈ ps, PyData.strOk p.2 = true) (h2 : H q = some (.lst [])) (k : Q (.bl (!ps.isEmpty)) H) : rNeD K (.ref p) (.ref q) H Q := by
  refine ⟨.list (ps.map pwD), .list [], .lst (SqL.of h1) hp.dp, .lst (SqL.of h2) .nil, pr_shaped ok, nil_shaped, ?_⟩
  cases ps with
  | nil => simpa [PyData.eqv, PyData.eqvAll] using k
  | cons a b => simpa [PyData.eqv, PyData.eqvAll] using k
theorem shown_ok (a b : Bool) : PyData.strOk (shownS a b) = true := by cases a <;> cases b <;> decide +kernel
/-! ### whether it hangs on a number -/
def restF (z : Str) (l : List Str) (f : Str → Int) : List Int := (l.filter fun y => decide (y ≠ z)).map f
def cnd (p q : List Int × Str) : Bool := decide (q.1 = p.1) && decide (q.2 ≠ p.2)
def pairsW (z : Str) (l : List Str) (v : Str → Bool) (fs : List (Str → Int)) : List (List Int × Str) := fs.map fun f => (restF z l f, wordF v l f)
def hangP (ps : List (List Int × Str)) : Bool := ps.any fun p => ps.any (cnd p)
def hangF (z : Str) (l : List Str) (fs : List (Str → Int)) (v : Str → Bool) : Bool := hangP (pairsW z l v fs)
theorem any_filter {α : Type} (p : α → Bool) : ∀ l : List α, (!(l.filter p).isEmpty) = l.any p
  | [] => rfl
  | a :: l => by
    by_cases h : p a = true
    · rw [List.filter_cons_of_pos h, List.any_cons, h]; rfl
    · rw [List.filter_cons_of_neg h, List.any_cons, any_filter p l, Bool.eq_false_iff.mpr h]; rfl
theorem dc_ne2 {H : Hp} {hd a : Addr} {ad : Str → Addr} {f : Str → Int} {l m : List Str} {y : Str} (h1 : H hd = some (.dK (kvX (fun z => V.ref (ad z)) l))) (h2 : H a = some (.dK (dcN f m))) (hy : y ∈ l) : a ≠ hd := fun e => by
  rw [e, h1] at h2
  have e2 := HO.dK.inj (Option.some.inj h2)
  cases l with
  | nil => cases hy
  | cons x l =>
    cases m with
    | nil => cases e2
    | cons w m =>
      have h3 := congrArg List.head? e2
      simp [dcN, kvX] at h3
theorem PsW.app {K : PySem.W.Frag} {H : Hp} {as : List Addr} {ps : List (List Int × Str)} {a r : Addr} {p : List Int × Str} (h : PsW K H as ps) (h1 : H a = some (.tup [.ref r, .str p.2])) (h2 : H r = some (.lst (p.1.map V.int))) : PsW K H (as ++ [a]) (ps ++ [p]) := by
  refine ⟨by rw [List.length_append, List.length_append, h.len]; rfl, fun i b q hb hq => ?_⟩
  by_cases c : i < as.length
  · rw [List.getElem?_append_left c] at hb
    rw [List.getElem?_append_left (by rw [← h.len]; exact c)] at hq
    exact h.at_ i b q hb hq
  · rw [List.getElem?_append_right (by omega)] at hb
    rw [List.getElem?_append_right (by rw [← h.len]; omega), ← h.len] at hq
    match e : i - as.length, hb, hq with
    | 0, hb, hq => cases hb; cases hq; exact ⟨r, h1, h2⟩
    | n + 1, hb, hq => cases hb
/-- a list that is none of them may change -/
theorem PsW.sb {K : PySem.W.Frag} {H H' : Hp} {as : List Addr} {ps : List (List Int × Str)} {sh : Addr} (h : PsW K H as ps) (n : ∀ (i : Nat) (a : Addr) (r : Addr) (w : Str), as[i]? = some a → H a = some (.tup [.ref r, .str w]) → r ≠ sh) (s : ∀ b o, b ≠ sh → H b = some o → H' b = some o) (hs : ∃ xs, H sh = some (.lst xs)) : PsW K H' as ps := ⟨h.len, fun i a p x y => by
  obtain ⟨r, h1, h2⟩ := h.at_ i a p x y
  obtain ⟨xs, e⟩ := hs
  exact ⟨r, s _ _ (fun q => by rw [q, e] at h1; cases h1) h1, s _ _ (n i a r _ x h1) h2⟩⟩
def spHang (K : PySem.W.Frag) : Sp := fun vs H Q _ => ∃ (hd sl vd : Addr) (z : Str) (l : List Str) (pr : Str → Rg) (as : List Addr) (fs : List (Str → Int)) (rs : List Row) (v : Str → Bool), vs = [.str z, .ref hd, .ref sl, .ref vd] ∧ PrsAt K H hd l pr ∧ l.length ≤ 100 ∧ H sl = some (.lst (as.map V.ref)) ∧ DsF H as fs l ∧ fs.length ≤ 100 ∧
  (∀ y ∈ l, y ∈ plc rs) ∧ H vd = some (.dK (kvG rs v)) ∧ ∀ H', Same H H' → Q (.bl (hangF z l fs v)) H'
section
variable {P : Program} {w : World} {K : PySem.W.Frag} {mg : Str → Option Value} {base : Heap} {C CM CC CL CS : Addr}
abbrev pHg : List Str := ["_law_name_here", "_law_held_here", "_law_some_here", "_law_values"]
abbrev nHg : List Str := ["_law_name_here", "_law_held_here", "_law_some_here", "_law_values", "_law_shown_here", "_law_numbers_here", "_law_rest", "_law_one", "_law_word"]
theorem sc_Hg : FnScope nHg pHg (defScope s_L_hangs) := ⟨rfl, rfl, rfl, by decide +kernel, rfl, by decide +kernel, by decide +kernel⟩
theorem ok_Lhangs (D : DefAt K mg "_law_hangs" s_L_hangs pHg) (Ds : DefAt K mg "_law_side_shows" s_L_side_shows pSd) (Gs : FnOk P w K mg base CX0 2 Ds.f Ds.fd pSd spSideN) : FnOk P w K mg base CX0 3 D.f D.fd pHg (spHang K) := by
  refine D.F.ok sc_Hg (fun vs H Q E h => ?_) (fun cdv A outer s H vs Q E hr h => ?_)
  · obtain ⟨hd, sl, vd, z, l, pr, as, fs, rs, v, rfl, _⟩ := h
    rfl
  · obtain ⟨hd, sl, vd, z, l, pr, as, fs, rs, v, rfl, ⟨ad, h1, h2⟩, hl, hsl, hD, hfs, hsub, hv, hq⟩ := h
    have hu := hu_of hr
    have h64 := hr.units
    refine ⟨_, pss_cons (ps_set (i := 4) sc_Hg.nd rfl (.inl rfl) (pe_lst pa_nil))
      (pss_cons (ps_for PassesOwn.never rfl (pi_list (pv 2)) (pg_name (i := 5) sc_Hg.nd rfl (.inr rfl))
        (pss_cons (ps_set (i := 6) sc_Hg.nd rfl (.inr rfl) (pe_lock (pe_lc (own := [("_law_one", 7)]) (g := gName 7) (tt := tTest (tOp rNe (tVar 7) (tVar 0))) (te := tDGet (tVar 5) (tVar 7)) rfl sc_Hg.nd (pi_keys (pv 1)) (blkOk_by (N := nHg) (sc := defScope s_L_hangs) (by decide +kernel))
          (fun _ _ _ _ _ => pg_name (i := 7) sc_Hg.nd rfl (Or.inl rfl)) (fun _ _ _ _ _ => by exact pts_one (pt_cmpR op_ne (pv 7) (pv 0) (nomark _))) (fun _ _ _ _ _ => by exact pe_dget hu (pv 5) (pv 7) (fun _ _ => rfl)))))
        (pss_one (ps_expr (pe_bm PySem.F.plainAttrs_list PySem.F.slot_list_append PySem.F.type_list_append mt_append (pv 4) (pa_cons (pe_tup (pa_cons (pv 6) (pa_cons (pe_call Gs hr rfl Ds.g Ds.F.kp Ds.b .nil pass0 (pa_cons (pv 5) (pa_cons (pv 3) pa_nil))) pa_nil))) pa_nil))))))
      (pss_cons (ps_for PassesOwn.never rfl (pi_list (pv 4)) (pg_tup rfl (pgs_cons (pg_name (i := 6) sc_Hg.nd rfl (.inr rfl)) (pgs_cons (pg_name (i := 8) sc_Hg.nd rfl (.inr rfl)) pgs_nil)))
        (pss_one (ps_if (pt_cmpR (op_neD h64) (pe_lc (own := [("_law_one", 7)]) (g := gName 7) (tt := tAnd (tTest (tOp (rEqD K) (tOp (rIxT K) (tVar 7) (tC (.int 0))) (tVar 6))) (tTest (tOp rNe (tOp (rIxT K) (tVar 7) (tC (.int 1))) (tVar 8)))) (te := tVar 7) rfl sc_Hg.nd (pi_list (pv 4)) (blkOk_by (N := nHg) (sc := defScope s_L_hangs) (by decide +kernel))
          (fun _ _ _ _ _ => pg_name (i := 7) sc_Hg.nd rfl (Or.inl rfl)) (fun _ _ _ _ _ => by exact pts_one (PW.pt (pw_and (pt_cmpR (op_eqD h64) (pe_ix ix_tup (pv 7) pe_int (fun _ _ => rfl)) (pv 6) (nomark _)) (pw_and1 (pt_cmpR op_ne (pe_ix ix_tup (pv 7) pe_int (fun _ _ => rfl)) (pv 8) (nomark _)))))) (fun _ _ _ _ _ => pv 7)) (pe_lst pa_nil) (nomark _)) (pss_one (ps_ret pe_bl)) pss_nil)))
      (pss_one (ps_ret pe_bl)))), ?_⟩
    have n_sh : ∀ {b : Addr} {o : HO} {sh : Addr}, H b = some o → H sh = none → b ≠ sh := fun e h => ne_of_none e h
    refine ⟨(by show 0 ≤ sizeLine; decide), fun sh hsh => ?_⟩
    have s0 : Same H (upd H sh (.lst [])) := Same.new hsh
    have e0 : (upd H sh (.lst [])) sh = some (.lst []) := upd_same
    generalize upd H sh (.lst []) = H0 at s0 e0
    have SBH : ∀ {H' : Hp}, SB sh H0 H' → Same H H' := fun {H'} sb b o e => sb b o (ne_of_none e hsh) (s0 b o e)
    refine ⟨_, rfl, sl, rfl, ⟨_, SqL.of (s0 _ _ hsl)⟩, ?_⟩
    have nps : ∀ {n : Nat}, (pairsW z l v (fs.take n)).length ≤ 100 := fun {n} => by
      unfold pairsW
      rw [List.length_map, List.length_take]
      omega
    refine for_list (K := K) (a := sl) (xs := as.map V.ref) (fun j σ H' => ∃ (v5 v6 v7 v8 : Option V) (ts : List Addr), σ = [some (.str z), some (.ref hd), some (.ref sl), some (.ref vd), some (.ref sh), v5, v6, v7, v8] ∧ SB sh H0 H' ∧ H' sh = some (.lst (ts.map V.ref)) ∧ PsW K H' ts (pairsW z l v (fs.take j)) ∧
        ∀ (i : Nat) (a : Addr) (r : Addr) (w : Str), ts[i]? = some a → H' a = some (.tup [.ref r, .str w]) → r ≠ sh)
      ⟨_, _, _, _, [], rfl, SB.refl _ _, e0, ⟨rfl, fun i a p ha => by cases ha⟩, fun i a r w ha => by cases ha⟩ (fun j σ H' _ ⟨_, _, _, _, _, _, sb, _⟩ => SqL.of (SBH sb _ _ hsl)) ?_ ?_
    · rintro j x σ H1 hx ⟨v5, v6, v7, v8, ts, rfl, sb1, e1, P1, N1⟩
      rw [List.getElem?_map] at hx
      obtain ⟨a, ha, rfl⟩ := Option.map_eq_some_iff.mp hx
      have hja : j < as.length := (List.getElem?_eq_some_iff.mp ha).1
      obtain ⟨fj, hfj⟩ : ∃ fj, fs[j]? = some fj := ⟨_, List.getElem?_eq_getElem (by rw [← hD.len]; exact hja)⟩
      have S1 := SBH sb1
      have hda := S1 _ _ h1
      have ea := S1 _ _ (hD.at_ j a fj ha hfj)
      -- the others' numbers
      refine ⟨hd, _, hda, trivial, fun od => ?_⟩
      obtain ⟨Hl, El⟩ : ∃ Hx, Hx = upd H1 hd (.frz od (.dK (kvX (fun z => V.ref (ad z)) l))) := ⟨_, rfl⟩
      have lk : Hl hd = some (.frz od (.dK (kvX (fun z => V.ref (ad z)) l))) := by rw [El]; exact upd_same
      have keep : ∀ b o, H1 b = some o → b ≠ hd → Hl b = some o := fun b o e n => by rw [El, upd_ne n]; exact e
      have back : ∀ H', Same Hl H' → Same H1 (upd H' hd (.dK (kvX (fun z => V.ref (ad z)) l))) := fun H' s b o e => by
        by_cases q : b = hd
        · rw [q, upd_same, ← e, q]; exact hda.symm
        · rw [upd_ne q]; exact s _ _ (keep b o e q)
      have free : ∀ b, Hl b = none → H1 b = none := fun b e => by
        rw [El] at e
        by_cases q : b = hd
        · rw [q, upd_same] at e; cases e
        · rw [upd_ne q] at e; exact e
      rw [← El]
      clear El
      refine ⟨_, rfl, hd, od, rfl, .inl ⟨_, lk, fun D1 hD1 => ?_⟩⟩
      refine lc_it (walk_keys (d := hd) (o := od) (kvs := kvX (fun z => V.ref (ad z)) l)) (fun i H' => Same Hl H' ∧ H' D1 = some (.lst ((restF z (l.take i) fj).map V.int))) ⟨Same.new hD1, upd_same⟩ (fun i H' _ m => m.1 _ _ lk) ?_ ?_
      · rintro i x H3 H4 hi ⟨s3, e3⟩ ⟨rfl, k', w', hk', rfl⟩
        obtain ⟨y, ey, hy⟩ := kvX_at hk'
        cases ey
        have hym := List.mem_of_getElem? hy
        have dg2 : DGet H4 a (.str y) (some (.int (fj y))) := .inl ⟨_, .inr y, .inl (s3 _ _ (keep _ _ ea (dc_ne2 hda ea hym))), rfl, (valV_kvX (fun z => V.int (fj z)) hym).symm⟩
        have lt : (restF z (l.take i) fj).length ≤ 200 := by
          unfold restF
          rw [List.length_map]
          have h1 := List.length_filter_le (fun y => decide (y ≠ z)) (l.take i)
          rw [List.length_take] at h1
          omega
        refine ⟨rfl, _, rfl, _, rfl, rfl, _, rfl, ?_⟩
        have e0' : (!decide (kV (.inr y : Key) = V.str z)) = decide (y ≠ z) := by
          show (!decide (V.str y = V.str z)) = decide (y ≠ z)
          by_cases q : y = z
          · rw [q]; simp
          · have : V.str y ≠ V.str z := fun e => q (V.str.inj e)
            simp [q, this]
        rw [e0']
        refine ite2 (fun hb => ?_) (fun hb => ?_)
        · refine ⟨_, rfl, _, rfl, a, _, rfl, dg2, _, e3, small1000 (by rw [List.length_map]; omega), fun o' ob eb => ?_, ?_⟩
          · rw [upd_ne (fun q => by rw [q, hD1] at eb; cases eb)]
            exact s3 _ _ eb
          · rw [upd_same]
            unfold restF
            rw [take_more hy, List.filter_append, List.filter_cons_of_pos (p := fun y => decide (y ≠ z)) hb, List.map_append, List.map_append]; rfl
        · refine ⟨s3, ?_⟩
          unfold restF
          rw [take_more hy, List.filter_append, List.filter_cons_of_neg (p := fun y => decide (y ≠ z)) hb, List.filter_nil, List.append_nil]
          exact e3
      rintro H3 ⟨s3, e3⟩
      have ek : (kvX (fun z => V.ref (ad z)) l).length = l.length := by unfold kvX; rw [List.length_map]
      rw [ek, List.take_length] at e3
      have nD : D1 ≠ hd := (ne_of_none lk hD1).symm
      refine ⟨s3 _ _ lk, ?_⟩
      have s4 := back _ s3
      have e4 : (upd H3 hd (.dK (kvX (fun z => V.ref (ad z)) l))) D1 = some (.lst ((restF z l fj).map V.int)) := by rw [upd_ne nD]; exact e3
      have n1s : D1 ≠ sh := (ne_of_none e1 (free _ hD1)).symm
      generalize upd H3 hd (.dK (kvX (fun z => V.ref (ad z)) l)) = H4 at s4 e4 ⊢
      clear s3 e3 lk keep back free nD
      refine ⟨_, rfl, .inl ⟨rfl, _, SqL.of (s4 _ _ e1)⟩, _, rfl, _, rfl, _, rfl, a, vd, fj, l, rs, v, rfl, s4 _ _ ea, hl, hsub, s4 _ _ (S1 _ _ hv), fun H5 s5 => ?_⟩
      refine ⟨(by show 2 ≤ sizeLine; decide), fun tq htq => ?_⟩
      have s6 : Same H5 (upd H5 tq (.tup [V.ref D1, V.str (wordF v l fj)])) := Same.new htq
      have e6 : (upd H5 tq (.tup [V.ref D1, V.str (wordF v l fj)])) tq = some (.tup [V.ref D1, V.str (wordF v l fj)]) := upd_same
      generalize upd H5 tq (.tup [V.ref D1, V.str (wordF v l fj)]) = H6 at s6 e6
      have S6 := s4.trans (s5.trans s6)
      have lts : ts.length ≤ 100 := by rw [P1.len]; exact nps
      refine ⟨sh, _, _, rfl, rfl, S6 _ _ e1, small1000 (by rw [List.length_map]; omega), ?_⟩
      have kp : ∀ b o, b ≠ sh → H6 b = some o → (upd H6 sh (.lst (ts.map V.ref ++ [V.ref tq]))) b = some o := fun b o n e => by rw [upd_ne n]; exact e
      have P6 := P1.same S6
      have N6 : ∀ (i : Nat) (a : Addr) (r : Addr) (w : Str), ts[i]? = some a → H6 a = some (.tup [.ref r, .str w]) → r ≠ sh := fun i b r w hb he => by
        have hib : i < ts.length := (List.getElem?_eq_some_iff.mp hb).1
        obtain ⟨p, hp⟩ : ∃ p, (pairsW z l v (fs.take j))[i]? = some p := ⟨_, List.getElem?_eq_getElem (by rw [← P1.len]; exact hib)⟩
        obtain ⟨r', q1, q2⟩ := P1.at_ i b p hb hp
        have q3 := S6 _ _ q1
        rw [he] at q3
        cases q3
        exact N1 i b r _ hb q1
      have P7 := P6.sb N6 kp ⟨_, S6 _ _ e1⟩
      refine ⟨_, _, _, _, ts ++ [tq], rfl, fun b o n e => kp b o n (S6 _ _ (sb1 b o n e)), by rw [upd_same, List.map_append]; rfl, ?_, ?_⟩
      · have ep : pairsW z l v (fs.take (j + 1)) = pairsW z l v (fs.take j) ++ [(restF z l fj, wordF v l fj)] := by
          unfold pairsW
          rw [take_more hfj, List.map_append]
          rfl
        rw [ep]
        exact P7.app (p := (restF z l fj, wordF v l fj)) (kp _ _ (fun q => by rw [q, S6 _ _ e1] at e6; cases e6) e6) (kp _ _ n1s (s6 _ _ (s5 _ _ e4)))
      · intro i b r w hb he
        by_cases c : i < ts.length
        · rw [List.getElem?_append_left c] at hb
          rw [upd_ne (fun q => by rw [q, upd_same] at he; cases he)] at he
          exact N6 i b r w hb he
        · rw [List.getElem?_append_right (by omega)] at hb
          match e : i - ts.length, hb with
          | 0, hb =>
            cases hb
            rw [upd_ne (fun q => by rw [q, upd_same] at he; cases he), e6] at he
            cases he
            exact n1s
          | n + 1, hb => cases hb
    rintro σ H1 ⟨v5, v6, v7, v8, ts, rfl, sb1, e1, P1, N1⟩
    rw [List.length_map, hD.len, List.take_length] at P1
    have S1 := SBH sb1
    have np1 : (pairsW z l v fs).length ≤ 100 := by unfold pairsW; rw [List.length_map]; exact hfs
    have okw : ∀ p ∈ pairsW z l v fs, PyData.strOk p.2 = true := fun p hp => by
      obtain ⟨f, _, rfl⟩ := List.mem_map.mp hp
      exact shown_ok _ _
    unfold hangF at hq
    generalize pairsW z l v fs = ps at P1 np1 okw hq
    clear sb1 N1 SBH nps e0 s0
    refine ⟨_, rfl, sh, rfl, ⟨_, SqL.of e1⟩, ?_⟩
    refine for_list (K := K) (a := sh) (xs := ts.map V.ref) (fun i σ H' => ∃ (v6 v7 v8 : Option V), σ = [some (.str z), some (.ref hd), some (.ref sl), some (.ref vd), some (.ref sh), v5, v6, v7, v8] ∧ Same H1 H' ∧ ∀ p ∈ ps.take i, ps.any (cnd p) = false)
      ⟨_, _, _, rfl, Same.refl _, fun p hp => by simp at hp⟩ (fun i σ H' _ ⟨_, _, _, _, s, _⟩ => SqL.of (s _ _ e1)) ?_ ?_
    · rintro i x σ H2 hx ⟨v6, v7, v8, rfl, s2, A2⟩
      rw [List.getElem?_map] at hx
      obtain ⟨ti, hti, rfl⟩ := Option.map_eq_some_iff.mp hx
      have hil : i < ts.length := (List.getElem?_eq_some_iff.mp hti).1
      obtain ⟨p, hp⟩ : ∃ p, ps[i]? = some p := ⟨_, List.getElem?_eq_getElem (by rw [← P1.len]; exact hil)⟩
      obtain ⟨r, er, el⟩ := (P1.same s2).at_ i ti p hti hp
      refine ⟨ti, _, rfl, sqT er, rfl, _, _, rfl, _, _, rfl, rfl, ?_⟩
      refine ⟨_, rfl, sh, rfl, ⟨_, SqL.of (s2 _ _ e1)⟩, fun D hD => ?_⟩
      refine lc_list (K := K) (a := sh) (xs := ts.map V.ref) (fun j H' => Same H2 H' ∧ ∃ cs : List Addr, H' D = some (.lst (cs.map V.ref)) ∧ PsW K H' cs ((ps.take j).filter (cnd p)) ∧ ∀ (i : Nat) (a : Addr) (r : Addr) (w : Str), cs[i]? = some a → H' a = some (.tup [.ref r, .str w]) → r ≠ D) ⟨Same.new hD, [], upd_same, ⟨rfl, fun i a p ha => by cases ha⟩, fun i a r w ha => by cases ha⟩ (fun j H' _ m => SqL.of (m.1 _ _ (s2 _ _ e1))) ?_ ?_
      · rintro j x H3 hx ⟨s3, cs, e3, P3, N3⟩
        rw [List.getElem?_map] at hx
        obtain ⟨tj, htj, rfl⟩ := Option.map_eq_some_iff.mp hx
        have hjl : j < ts.length := (List.getElem?_eq_some_iff.mp htj).1
        obtain ⟨q, hqj⟩ : ∃ q, ps[j]? = some q := ⟨_, List.getElem?_eq_getElem (by rw [← P1.len]; exact hjl)⟩
        obtain ⟨r2, er2, el2⟩ := (P1.same (s2.trans s3)).at_ j tj q htj hqj
        have lcs : cs.length ≤ 100 := by
          rw [P3.len]
          have h1 := List.length_filter_le (cnd p) (ps.take j)
          rw [List.length_take] at h1
          omega
        have nD2 : r2 ≠ D := by
          obtain ⟨r3, q1, q2⟩ := (P1.same s2).at_ j tj q htj hqj
          have q3 := s3 _ _ q1
          rw [er2] at q3
          cases q3
          exact ne_of_none q2 hD
        have no : ∀ (hc : ¬ cnd p q = true), Same H2 H3 ∧ ∃ cs : List Addr, H3 D = some (.lst (cs.map V.ref)) ∧ PsW K H3 cs ((ps.take (j + 1)).filter (cnd p)) ∧ ∀ (i : Nat) (a : Addr) (r : Addr) (w : Str), cs[i]? = some a → H3 a = some (.tup [.ref r, .str w]) → r ≠ D := fun hc => by
          refine ⟨s3, cs, e3, ?_, N3⟩
          rw [take_more hqj, List.filter_append, List.filter_cons_of_neg hc, List.filter_nil, List.append_nil]
          exact P3
        have yes : ∀ (hc : cnd p q = true), ∃ acc, H3 D = some (.lst acc) ∧ acc.length < sizeLine ∧ (Same H2 (upd H3 D (.lst (acc ++ [V.ref tj]))) ∧ ∃ cs : List Addr, (upd H3 D (.lst (acc ++ [V.ref tj]))) D = some (.lst (cs.map V.ref)) ∧ PsW K (upd H3 D (.lst (acc ++ [V.ref tj]))) cs ((ps.take (j + 1)).filter (cnd p)) ∧ ∀ (i : Nat) (a : Addr) (r : Addr) (w : Str), cs[i]? = some a → (upd H3 D (.lst (acc ++ [V.ref tj]))) a = some (.tup [.ref r, .str w]) → r ≠ D) := fun hc => by
          have kp : ∀ b o, b ≠ D → H3 b = some o → (upd H3 D (.lst (cs.map V.ref ++ [V.ref tj]))) b = some o := fun b o n e => by rw [upd_ne n]; exact e
          refine ⟨_, e3, small1000 (by rw [List.length_map]; omega), fun o' ob eb => kp _ _ (fun q => by rw [q, hD] at eb; cases eb) (s3 _ _ eb), cs ++ [tj], by rw [upd_same, List.map_append]; rfl, ?_, ?_⟩
          · rw [take_more hqj, List.filter_append, List.filter_cons_of_pos hc]
            exact (P3.sb N3 kp ⟨_, e3⟩).app (kp _ _ (fun q => by rw [q, e3] at er2; cases er2) er2) (kp _ _ nD2 el2)
          · intro i b r w hb he
            rw [upd_ne (fun q => by rw [q, upd_same] at he; cases he)] at he
            by_cases c : i < cs.length
            · rw [List.getElem?_append_left c] at hb
              exact N3 i b r w hb he
            · rw [List.getElem?_append_right (by omega)] at hb
              match e : i - cs.length, hb with
              | 0, hb =>
                cases hb
                rw [er2] at he
                cases he
                exact nD2
              | n + 1, hb => cases hb
        refine ⟨rfl, _, rfl, tj, _, _, _, rfl, rfl, sqT er2, rfl, _, rfl, rd_eqZ el2 (s3 _ _ el) ⟨_, rfl, ?_⟩⟩
        refine ite2 (fun h1 => ?_) (fun h1 => ?_)
        · refine ⟨_, rfl, tj, _, _, _, rfl, rfl, sqT er2, rfl, _, rfl, rfl, _, rfl, ?_⟩
          have ed : (!decide (V.str q.2 = V.str p.2)) = decide (q.2 ≠ p.2) := by
            by_cases c : q.2 = p.2
            · rw [c]; simp
            · have : V.str q.2 ≠ V.str p.2 := fun e => c (V.str.inj e)
              simp [c, this]
          rw [ed]
          refine ite2 (fun h2 => ?_) (fun h2 => ?_)
          · exact ⟨_, rfl, yes (by unfold cnd; rw [h1, h2]; rfl)⟩
          · exact no (by unfold cnd; rw [h1, Bool.eq_false_iff.mpr h2]; exact Bool.false_ne_true)
        · exact iteF' rfl (no (by unfold cnd; rw [Bool.eq_false_iff.mpr h1]; exact Bool.false_ne_true))
      rintro H3 ⟨s3, cs, e3, P3, _⟩
      rw [List.length_map, P1.len, List.take_length] at P3
      refine ⟨(by show 0 ≤ sizeLine; decide), fun nl hnl => ?_⟩
      have s4 : Same H3 (upd H3 nl (.lst [])) := Same.new hnl
      have e4 : (upd H3 nl (.lst [])) nl = some (.lst []) := upd_same
      generalize upd H3 nl (.lst []) = H4 at s4 e4
      refine rd_neN (s4 _ _ e3) (P3.same s4) (fun q hq => okw q (List.mem_filter.mp hq).1) e4 ⟨_, rfl, ?_⟩
      rw [any_filter]
      refine ite2 (fun hb => ?_) (fun hb => ?_)
      · have hh : hangP ps = true := List.any_eq_true.mpr ⟨p, List.mem_of_getElem? hp, hb⟩
        rw [hh] at hq
        exact hq H4 (S1.trans (s2.trans (s3.trans s4)))
      · refine ⟨_, _, _, rfl, s2.trans (s3.trans s4), fun q hq => ?_⟩
        rw [take_more hp] at hq
        rcases List.mem_append.mp hq with hq | hq
        · exact A2 q hq
        · rw [List.mem_singleton.mp hq]
          exact Bool.eq_false_iff.mpr hb
    rintro σ H2 ⟨v6, v7, v8, rfl, s2, A2⟩
    rw [List.length_map, P1.len, List.take_length] at A2
    have hh : hangP ps = false := List.any_eq_false.mpr fun p hp => by rw [A2 p hp]; exact Bool.false_ne_true
    rw [hh] at hq
    exact hq H2 (S1.trans s2)
end
end Ts

set_option maxRecDepth 100000
set_option maxHeartbeats 4000000
namespace Ts
open PySem L2
/-! ### all numbers out of ranges: what they show -/
theorem nums_mem {q : Rg} {k : Int} (h : k ∈ numsR q) : q.lo ≤ k ∧ ∀ h, q.hi = some h → k ≤ h := by
  unfold numsR upN at h
  obtain ⟨h1, h2⟩ := List.mem_filter.mp h
  refine ⟨?_, fun hh e => ?_⟩
  · simp only [List.mem_cons, List.not_mem_nil, or_false] at h1
    omega
  · rw [e] at h2
    exact of_decide_eq_true h2
theorem nums_lo {q : Rg} (h : q.ok) : q.lo ∈ numsR q := by
  unfold numsR upN
  refine List.mem_filter.mpr ⟨List.mem_cons_self .., ?_⟩
  cases e : q.hi with
  | none => rfl
  | some k => exact decide_eq_true (h.2 k e)
theorem nums_up {q : Rg} (h : q.ok) (h0 : q.lo = 0) (hn : q.hi ≠ some 0) : q.lo + 1 ∈ numsR q := by
  unfold numsR upN
  refine List.mem_filter.mpr ⟨List.mem_cons_of_mem _ (List.mem_cons_self ..), ?_⟩
  cases e : q.hi with
  | none => rfl
  | some k =>
    have h1 := h.2 k e
    have h2 : k ≠ 0 := fun z => hn (by rw [e, z])
    exact decide_eq_true (by omega)
theorem allF_in (pr : Str → Rg) (l : List Str) : ∀ i, i ≤ l.length → ∀ f ∈ allF pr (l.take i), ∀ y ∈ l.take i, f y ∈ numsR (pr y)
  | 0, _, f, _, y, hy => by simp at hy
  | i + 1, hi, f, hf, y, hy => by
    have hz := List.getElem?_eq_getElem (l := l) (i := i) (by omega)
    rw [take_more hz] at hf hy
    rw [allF_snoc] at hf
    obtain ⟨g, hg, hm⟩ := List.mem_flatMap.mp hf
    obtain ⟨k, hk, rfl⟩ := List.mem_map.mp hm
    unfold setF
    by_cases e : y = l[i]
    · rw [if_pos e, e]; exact hk
    · rw [if_neg e]
      rcases List.mem_append.mp hy with hy | hy
      · exact allF_in pr l i (by omega) g hg y hy
      · exact absurd (List.mem_singleton.mp hy) e
theorem allF_ex (pr : Str → Rg) (l : List Str) (c : Str → Int) (hc : ∀ y ∈ l, c y ∈ numsR (pr y)) : ∀ i, i ≤ l.length → ∃ f ∈ allF pr (l.take i), ∀ y ∈ l.take i, f y = c y
  | 0, _ => ⟨fun _ => 0, by simp [allF], fun y hy => by simp at hy⟩
  | i + 1, hi => by
    have hz := List.getElem?_eq_getElem (l := l) (i := i) (by omega)
    obtain ⟨g, hg, e⟩ := allF_ex pr l c hc i (by omega)
    refine ⟨setF g l[i] (c l[i]), ?_, fun y hy => ?_⟩
    · rw [take_more hz, allF_snoc]
      exact List.mem_flatMap.mpr ⟨g, hg, List.mem_map.mpr ⟨_, hc _ (List.getElem_mem _), rfl⟩⟩
    · unfold setF
      by_cases q : y = l[i]
      · rw [if_pos q, q]
      · rw [if_neg q]
        rw [take_more hz] at hy
        rcases List.mem_append.mp hy with hy | hy
        · exact e y hy
        · exact absurd (List.mem_singleton.mp hy) q
theorem allF_mem {pr : Str → Rg} {l : List Str} {f : Str → Int} (h : f ∈ allF pr l) : ∀ y ∈ l, f y ∈ numsR (pr y) := by
  have := allF_in pr l l.length (Nat.le_refl _)
  rw [List.take_length] at this
  exact this f h
theorem allF_get {pr : Str → Rg} {l : List Str} {c : Str → Int} (hc : ∀ y ∈ l, c y ∈ numsR (pr y)) : ∃ f ∈ allF pr l, ∀ y ∈ l, f y = c y := by
  have := allF_ex pr l c hc l.length (Nat.le_refl _)
  rw [List.take_length] at this
  exact this
theorem flat_len (q : Rg) (z : Str) : ∀ fs : List (Str → Int), (fs.flatMap fun f => (numsR q).map fun k => setF f z k).length = fs.length * (numsR q).length
  | [] => by simp
  | f :: fs => by rw [List.flatMap_cons, List.length_append, flat_len q z fs, List.length_map, List.length_cons, Nat.add_mul, Nat.one_mul, Nat.add_comm]
theorem allF_len (pr : Str → Rg) (l : List Str) : ∀ i, i ≤ l.length → (allF pr (l.take i)).length ≤ 3 ^ ((l.take i).filter fun y => decide (1 < (numsR (pr y)).length)).length
  | 0, _ => by simp [allF]
  | i + 1, hi => by
    have hz := List.getElem?_eq_getElem (l := l) (i := i) (by omega)
    have ih := allF_len pr l i (by omega)
    have h3 := numsR_len (pr l[i])
    rw [take_more hz, allF_snoc, flat_len, List.filter_append]
    by_cases c : 1 < (numsR (pr l[i])).length
    · rw [List.filter_cons_of_pos (p := fun y => decide (1 < (numsR (pr y)).length)) (decide_eq_true c), List.filter_nil, List.length_append, List.length_singleton, Nat.pow_succ]
      exact Nat.mul_le_mul ih h3
    · rw [List.filter_cons_of_neg (p := fun y => decide (1 < (numsR (pr y)).length)) (by simpa using c), List.filter_nil, List.append_nil]
      exact Nat.le_trans (Nat.mul_le_mul ih (show (numsR (pr l[i])).length ≤ 1 by omega)) (by rw [Nat.mul_one]; exact Nat.le_refl _)
/-! sums -/
theorem sum_nn {f : Str → Int} : ∀ {m : List Str}, (∀ y ∈ m, 0 ≤ f y) → 0 ≤ (m.map f).sum
  | [], _ => by simp
  | y :: m, h => by
    have := sum_nn (m := m) fun x hx => h x (List.mem_cons_of_mem _ hx)
    have h0 := h y (List.mem_cons_self ..)
    rw [List.map_cons, List.sum_cons]
    omega
theorem sum_pos {f : Str → Int} : ∀ {m : List Str}, (∀ y ∈ m, 0 ≤ f y) → (0 < (m.map f).sum ↔ ∃ y ∈ m, 0 < f y)
  | [], _ => by simp
  | y :: m, h => by
    have hm := fun x hx => h x (List.mem_cons_of_mem y hx)
    have ih := sum_pos (m := m) hm
    have nn := sum_nn (m := m) hm
    have h0 := h y (List.mem_cons_self ..)
    rw [List.map_cons, List.sum_cons]
    constructor
    · intro hs
      by_cases c : 0 < f y
      · exact ⟨y, List.mem_cons_self .., c⟩
      · obtain ⟨x, hx, hp⟩ := ih.mp (by omega)
        exact ⟨x, List.mem_cons_of_mem _ hx, hp⟩
    · rintro ⟨x, hx, hp⟩
      rcases List.mem_cons.mp hx with rfl | hx
      · omega
      · have := ih.mpr ⟨x, hx, hp⟩
        omega
theorem rg_lo {pr : Str → Rg} {m : List Str} (h : ∀ y ∈ m, (pr y).ok) : (rgSum (m.map pr)).lo = 0 ↔ ∀ y ∈ m, (pr y).lo = 0 := by
  have e : (rgSum (m.map pr)).lo = (m.map fun y => (pr y).lo).sum := by
    unfold rgSum
    rw [List.map_map]
    rfl
  have hn : ∀ y ∈ m, 0 ≤ (pr y).lo := fun y hy => (h y hy).1
  have nn := sum_nn (f := fun y => (pr y).lo) hn
  have sp := sum_pos (f := fun y => (pr y).lo) hn
  rw [e]
  constructor
  · intro z y hy
    have h1 := hn y hy
    by_cases c : 0 < (pr y).lo
    · have := sp.mpr ⟨y, hy, c⟩
      omega
    · omega
  · intro hz
    by_cases c : 0 < (m.map fun y => (pr y).lo).sum
    · obtain ⟨y, hy, hp⟩ := sp.mp c
      have := hz y hy
      omega
    · omega
theorem rg_hi {pr : Str → Rg} {m : List Str} (h : ∀ y ∈ m, (pr y).ok) : (rgSum (m.map pr)).hi ≠ some 0 ↔ ∃ y ∈ m, (pr y).hi ≠ some 0 := by
  have nn : ∀ y ∈ m, 0 ≤ (pr y).hi.getD 0 := fun y hy => by
    have h1 := h y hy
    cases e : (pr y).hi with
    | none => exact Int.le_refl _
    | some k =>
      have := h1.2 k e
      have := h1.1
      show 0 ≤ k
      omega
  unfold rgSum
  by_cases c : ((m.map pr).any fun q => decide (q.hi = none)) = true
  · rw [if_pos c]
    refine ⟨fun _ => ?_, fun _ => nofun⟩
    obtain ⟨q, hq, e⟩ := List.any_eq_true.mp c
    obtain ⟨y, hy, rfl⟩ := List.mem_map.mp hq
    exact ⟨y, hy, by rw [of_decide_eq_true e]; nofun⟩
  · rw [if_neg c]
    show some (((m.map pr).map fun q => q.hi.getD 0).sum) ≠ some 0 ↔ _
    rw [List.map_map]
    show some ((m.map fun y => (pr y).hi.getD 0).sum) ≠ some 0 ↔ _
    have sp := sum_pos (f := fun y => (pr y).hi.getD 0) nn
    have s0 := sum_nn (f := fun y => (pr y).hi.getD 0) nn
    constructor
    · intro hne
      have hp : 0 < (m.map fun y => (pr y).hi.getD 0).sum := by
        by_cases z : (m.map fun y => (pr y).hi.getD 0).sum = 0
        · exact absurd (by rw [z]) hne
        · omega
      obtain ⟨y, hy, hp⟩ := sp.mp hp
      refine ⟨y, hy, fun e => ?_⟩
      rw [e] at hp
      exact absurd hp (by show ¬ (0 : Int) < 0; decide)
    · rintro ⟨y, hy, hne⟩ e
      have hz : (m.map fun y => (pr y).hi.getD 0).sum = 0 := Option.some.inj e
      have hnn : (pr y).hi ≠ none := fun en => c (List.any_eq_true.mpr ⟨pr y, List.mem_map.mpr ⟨y, hy, rfl⟩, decide_eq_true en⟩)
      cases eh : (pr y).hi with
      | none => exact hnn eh
      | some k =>
        have h1 := nn y hy
        rw [eh] at h1 hne
        have h1 : 0 ≤ k := h1
        have h2 : k ≠ 0 := fun q => hne (by rw [q])
        have := sp.mpr ⟨y, hy, by rw [eh]; show 0 < k; omega⟩
        omega
/-! words -/
def sideR (pr : Str → Rg) (l : List Str) (v : Str → Bool) (b : Bool) : Rg := rgSum ((l.filter fun y => decide (v y = b)).map pr)
theorem mem_may {g : Rg} {b : Bool} : b ∈ mayB g ↔ (if b then g.hi ≠ some 0 else g.lo = 0) := by
  unfold mayB
  rw [List.mem_append]
  cases b
  · by_cases h : g.lo = 0
    · simp [h]
    · simp [h]
  · by_cases h : g.hi = some 0
    · simp [h]
    · simp [h]
theorem sumB_eq (f : Str → Int) (v : Str → Bool) (b : Bool) (l : List Str) : sumB f v b l = ((l.filter fun y => decide (v y = b)).map f).sum := by
  unfold sumB
  congr 2
  refine List.filter_congr fun y _ => ?_
  cases b <;> cases v y <;> rfl
theorem may_of {pr : Str → Rg} {l : List Str} (hok : ∀ y ∈ l, (pr y).ok) {f : Str → Int} (hf : ∀ y ∈ l, f y ∈ numsR (pr y)) (v : Str → Bool) (b : Bool) : decide (0 < sumB f v b l) ∈ mayB (sideR pr l v b) := by
  have hm : ∀ y ∈ l.filter fun y => decide (v y = b), (pr y).ok := fun y hy => hok y (List.mem_filter.mp hy).1
  have hn : ∀ y ∈ l.filter fun y => decide (v y = b), 0 ≤ f y := fun y hy => by
    have h1 := (hm y hy).1
    have h2 := (nums_mem (hf y (List.mem_filter.mp hy).1)).1
    omega
  rw [mem_may, sumB_eq]
  by_cases c : 0 < ((l.filter fun y => decide (v y = b)).map f).sum
  · rw [decide_eq_true c, if_pos rfl]
    obtain ⟨y, hy, hp⟩ := (sum_pos hn).mp c
    refine (rg_hi hm).mpr ⟨y, hy, fun e => ?_⟩
    have := (nums_mem (hf y (List.mem_filter.mp hy).1)).2 0 e
    omega
  · rw [decide_eq_false c, if_neg Bool.false_ne_true]
    refine (rg_lo hm).mpr fun y hy => ?_
    have h1 := (hm y hy).1
    have h2 := (nums_mem (hf y (List.mem_filter.mp hy).1)).1
    by_cases q : 0 < f y
    · exact absurd ((sum_pos hn).mpr ⟨y, hy, q⟩) c
    · omega
def pick (t : Bool) (q : Rg) : Int := if t = true ∧ q.lo = 0 ∧ q.hi ≠ some 0 then q.lo + 1 else q.lo
theorem pick_in {q : Rg} (h : q.ok) (t : Bool) : pick t q ∈ numsR q := by
  unfold pick
  split
  · rename_i c
    exact nums_up h c.2.1 c.2.2
  · exact nums_lo h
theorem pick_sum {pr : Str → Rg} {l : List Str} (hok : ∀ y ∈ l, (pr y).ok) {f : Str → Int} {v : Str → Bool} {b t : Bool} (hf : ∀ y ∈ l, v y = b → f y = pick t (pr y)) (ht : t ∈ mayB (sideR pr l v b)) : decide (0 < sumB f v b l) = t := by
  have hm : ∀ y ∈ l.filter fun y => decide (v y = b), (pr y).ok := fun y hy => hok y (List.mem_filter.mp hy).1
  have he : ∀ y ∈ l.filter fun y => decide (v y = b), f y = pick t (pr y) := fun y hy => hf y (List.mem_filter.mp hy).1 (of_decide_eq_true (List.mem_filter.mp hy).2)
  have hn : ∀ y ∈ l.filter fun y => decide (v y = b), 0 ≤ f y := fun y hy => by
    rw [he y hy]
    have h1 := (hm y hy).1
    have h2 := (nums_mem (pick_in (hm y hy) t)).1
    omega
  rw [mem_may] at ht
  rw [sumB_eq]
  cases t with
  | true =>
    rw [if_pos rfl] at ht
    obtain ⟨y, hy, hh⟩ := (rg_hi hm).mp ht
    refine decide_eq_true ((sum_pos hn).mpr ⟨y, hy, ?_⟩)
    rw [he y hy]
    have h1 := (hm y hy).1
    unfold pick
    by_cases c : (pr y).lo = 0
    · rw [if_pos ⟨rfl, c, hh⟩]; omega
    · rw [if_neg fun q => c q.2.1]; omega
  | false =>
    rw [if_neg Bool.false_ne_true] at ht
    have h0 := (rg_lo hm).mp ht
    refine decide_eq_false fun c => ?_
    obtain ⟨y, hy, hp⟩ := (sum_pos hn).mp c
    rw [he y hy] at hp
    unfold pick at hp
    rw [if_neg (fun q => Bool.false_ne_true q.1)] at hp
    have := h0 y hy
    omega
theorem mem_wordsB {x y : List Bool} {w : Str} : w ∈ wordsB x y ↔ ∃ a ∈ x, ∃ b ∈ y, shownS a b = w := by
  unfold wordsB
  rw [List.mem_flatten]
  constructor
  · rintro ⟨m, hm, hw⟩
    obtain ⟨a, ha, rfl⟩ := List.mem_map.mp hm
    obtain ⟨b, hb, rfl⟩ := List.mem_map.mp hw
    exact ⟨a, ha, b, hb, rfl⟩
  · rintro ⟨a, ha, b, hb, rfl⟩
    exact ⟨_, List.mem_map.mpr ⟨a, ha, rfl⟩, List.mem_map.mpr ⟨b, hb, rfl⟩⟩
theorem words_iff {pr : Str → Rg} {l : List Str} (hok : ∀ y ∈ l, (pr y).ok) (v : Str → Bool) (w : Str) : w ∈ wordsB (mayB (sideR pr l v true)) (mayB (sideR pr l v false)) ↔ ∃ f ∈ allF pr l, wordF v l f = w := by
  rw [mem_wordsB]
  constructor
  · rintro ⟨a, ha, b, hb, rfl⟩
    obtain ⟨f, hf, e⟩ := allF_get (pr := pr) (l := l) (c := fun y => pick (if v y = true then a else b) (pr y)) fun y hy => pick_in (hok y hy) _
    refine ⟨f, hf, ?_⟩
    unfold wordF
    rw [pick_sum hok (t := a) (fun y hy hv => by rw [e y hy, if_pos hv]) ha, pick_sum hok (t := b) (fun y hy hv => by rw [e y hy, if_neg (by rw [hv]; exact Bool.false_ne_true)]) hb]
  · rintro ⟨f, hf, rfl⟩
    exact ⟨_, may_of hok (allF_mem hf) v true, _, may_of hok (allF_mem hf) v false, rfl⟩
theorem may_nodup (g : Rg) : (mayB g).Nodup := by
  unfold mayB
  split <;> split <;> simp
theorem shownS_inj {a b c d : Bool} (h : shownS a b = shownS c d) : a = c ∧ b = d := by
  revert h
  cases a <;> cases b <;> cases c <;> cases d <;> decide +kernel
theorem wordsB_nodup {x y : List Bool} (hx : x.Nodup) (hy : y.Nodup) : (wordsB x y).Nodup := by
  unfold wordsB
  induction x with
  | nil => exact List.nodup_nil
  | cons a x ih =>
    obtain ⟨h1, h2⟩ := List.nodup_cons.mp hx
    rw [List.map_cons, List.flatten_cons]
    refine List.nodup_append.mpr ⟨?_, ih h2, fun w hw w' hw' e => ?_⟩
    · exact List.Pairwise.map _ (fun b c n e => n (shownS_inj e).2) hy
    · subst e
      obtain ⟨b, hb, rfl⟩ := List.mem_map.mp hw
      obtain ⟨m, hm, hw'⟩ := List.mem_flatten.mp hw'
      obtain ⟨c, hc, rfl⟩ := List.mem_map.mp hm
      obtain ⟨d, hd, e⟩ := List.mem_map.mp hw'
      exact h1 ((shownS_inj e).1 ▸ hc)
theorem wordsB_len (x y : List Bool) : (wordsB x y).length = x.length * y.length := by
  unfold wordsB
  induction x with
  | nil => simp
  | cons a x ih => rw [List.map_cons, List.flatten_cons, List.length_append, ih, List.length_map, List.length_cons, Nat.add_mul, Nat.one_mul, Nat.add_comm]
end Ts

set_option maxRecDepth 100000
set_option maxHeartbeats 1000000
namespace Ts
open PySem L2
/-! ### a written dict with the keys True and False -/
/-- the dict at p: what stands at True, what stands at False -/
def BoolD (P : Program) (w : World) (p : Addr) (x y : V) : HO := .ext fun h => ∃ u v : Value, RelV x u ∧ RelV y v ∧ h.DictOf (leafKind P w) p [(Leaf.num 1, u), (Leaf.num 0, v)]
theorem boolD_new {P : Program} {w : World} {H : Hp} {h : Heap} {p : Addr} {x y : V} {u v : Value} (ru : RelV x u) (rv : RelV y v) (d : h.DictOf (leafKind P w) p [(Leaf.num 1, u), (Leaf.num 0, v)]) : ObjOk P w H h p (BoolD P w p x y) := by
  obtain ⟨o, es, ep, ho, r⟩ := id d
  exact ⟨⟨u, v, ru, rv, d⟩, ⟨o, ho⟩, fun h1 h2 ⟨u, v, ru, rv, o, es, ep, ho, r⟩ k => ⟨u, v, ru, rv, o, es, ep, k _ ho, r⟩⟩
def tDispB2 (P : Program) (w : World) (t1 t2 t3 t4 : TE) : TE := fun σ H Q => ∀ p, H p = none → tPairs [(t1, t2), (t3, t4)] σ (upd H p (.dK [])) fun ps H2 => H2 p = some (.dK []) ∧ ∃ x y, ps = [(V.bl true, x), (V.bl false, y)] ∧ ((p == sysModules) = false → Q (.ref p) (upd H2 p (BoolD P w p x y)))
theorem pe_dispB2 {X : Cx} {pos : Pos} {keys : List (Option Expr)} {values : List Expr} {t1 t2 t3 t4 : TE} (h : PPs X pos keys values [(t1, t2), (t3, t4)]) (hall : keys.all (·.isSome) = true) (hl : keys.length = values.length) (h0 : keys ≠ []) (h15 : keys.length ≤ 15) : PE X (.Dict keys values pos) (tDispB2 X.prog X.w t1 t2 t3 t4) := by
  refine ⟨fun pins s σ H Q I q => ?_⟩
  have hn := I.hok.fresh (Nat.le_refl s.heap.objs.size)
  have I1 := I.laid (a := s.heap.objs.size) (o := .dK []) (h' := s.heap.push { cls := .type "dict", data := .dict #[] }) (t' := s.toks) (fun _ _ q => Heap.get?_push_of_some _ q) (Nat.le_refl _) (dk_empty s.heap I.big)
  refine wpAny_Dict_walk (knd := leafKind X.prog X.w) hall hl h0 h15 (thn (h.run pins _ σ _ _ I1 (q _ hn)) fun ws s2 ⟨ps, H2, I2, rel, e, x, y, ep, q2⟩ => ?_)
  subst ep
  obtain ⟨z, hd, vs0, r0, o0, es0, ep0, z1, z2, z3, z4⟩ := dk_of I2.hok e
  cases r0
  cases rel with
  | @cons a1 b1 as1 bs1 r1 rel =>
  cases rel with
  | @cons a2 b2 as2 bs2 r2 rel =>
  cases rel
  obtain ⟨w1, u⟩ := b1
  obtain ⟨w2, v⟩ := b2
  obtain ⟨k1, rx⟩ := r1
  obtain ⟨k2, ry⟩ := r2
  have k1 : w1 = Value.bool true := k1
  have k2 : w2 = Value.bool false := k2
  subst k1 k2
  have hes : es0.toList = [] := by
    cases hh : es0.toList with
    | nil => rfl
    | cons a b =>
      have := z4.2.1
      rw [hh] at this
      cases this
  refine ⟨[(Leaf.num 1, u), (Leaf.num 0, v)], ⟨rfl, rfl, rfl, rfl, trivial⟩, ⟨o0, es0, ep0, z1, z2, z3, ?_, ?_, List.nodup_nil⟩, fun h' dd' hs => ?_⟩
  · intro e he
    have he2 : e ∈ es0.toList := Array.mem_def.mp he
    rw [hes] at he2
    cases he2
  · rw [hes]
    exact .nil
  · have dd2 : h'.DictOf (leafKind X.prog X.w) s.heap.objs.size [(Leaf.num 1, u), (Leaf.num 0, v)] := dd'
    have he : ∃ q, h'.get? s.heap.objs.size = some q := let ⟨q, _, _, hq, _⟩ := dd2; ⟨q, hq⟩
    exact ⟨.ref s.heap.objs.size, _, d_write I2 (by rw [e]; exact True.intro) hs he (boolD_new rx ry dd2), rfl, q2 hd⟩
/-- d[b] of it -/
def tGetB2 (P : Program) (w : World) (td ty : TE) : TE := fun σ H Q => td σ H fun z H1 => ty σ H1 fun k H2 => ∃ p x y b, z = .ref p ∧ H2 p = some (BoolD P w p x y) ∧ k = .bl b ∧ Q (if b = true then x else y) H2
theorem pe_getB2 {X : Cx} {o i : Expr} {pos : Pos} {td ty : TE} (ho : PE X o td) (hi : PE X i ty) (hs : NoSl i) : PE X (.Subscript o i pos) (tGetB2 X.prog X.w td ty) := by
  refine ⟨fun pins s σ H Q I h => ?_⟩
  refine subD_of PySem.F.slot_dict_getitem.lookup hs (thn (ho.run pins s σ H _ I h) fun u s1 ⟨z, H1, I1, rz, q1⟩ => thn (hi.run pins s1 σ H1 _ I1 q1) fun iv s2 ⟨k, H2, I2, rk, p, x, y, b, ez, hp, ek, q2⟩ => ?_)
  subst ez
  subst ek
  obtain rfl : u = Value.ref p := rz
  obtain rfl : iv = Value.bool b := rk
  obtain ⟨u, v, ru, rv, dd⟩ := (I2.hok p _ hp).1
  refine ⟨dd.typeIs, ?_⟩
  cases b with
  | true => exact wpAny_getItem_of (knd := leafKind X.prog X.w) (k := Leaf.num 1) rfl dd.mapOf rfl ⟨_, H2, I2.tok _, ru, q2⟩
  | false => exact wpAny_getItem_of (knd := leafKind X.prog X.w) (k := Leaf.num 0) rfl dd.mapOf rfl ⟨_, H2, I2.tok _, rv, q2⟩
end Ts

set_option maxRecDepth 100000
set_option maxHeartbeats 4000000
namespace Ts
open PySem L2
/-! ### the shut folders on whose numbers it hangs what a place may show -/
def askL (rs : List Row) (pr : Str → Rg) (v : Str → Bool) (z : Str) : List Str := ((z :: belowL rs z).filter fun y => decide ((numW rs pr v z (v y)).lo = 0)).filter fun y => decide ((pr y).hi ≠ some 0)
def spAsks (K : PySem.W.Frag) (C CM CC : Addr) : Sp := fun vs H Q _ => ∃ (c m : Addr) (z : Str) (rs : List Row) (pr : Str → Rg) (v : Str → Bool), vs = [.ref c, .ref m, .str z] ∧ CMZ K C CM CC H c m rs pr v ∧ z ∈ plc rs ∧
  ∀ D H', H D = none → Same H H' → H' D = some (.lst ((askL rs pr v z).map V.str)) → Q (.ref D) H'
section
variable {P : Program} {w : World} {K : PySem.W.Frag} {mg : Str → Option Value} {base : Heap} {C CM CC : Addr}
abbrev nAsks : List Str := ["self", "meaning", "box", "least", "places", "place"]
theorem sc_asks : FnScope nAsks ["self", "meaning", "box"] (defScope s_Counts_asks) := ⟨rfl, rfl, rfl, by decide +kernel, rfl, by decide +kernel, by decide +kernel⟩
theorem ok_asks {f : Addr} {fd : FuncData} (F : Fun K "asks" "Counts.asks" s_Counts_asks f fd) (T : TxT K mg C) (M : TxM K mg CM) (TK : TxK K mg CC)
    (mOn : MethAt K CC "on" "Counts.on" s_Counts_on ["self", "meaning", "box"]) (GOn : FnOk P w K mg base CX0 7 mOn.f mOn.fd ["self", "meaning", "box"] (spSide K C CM CC true))
    (mOf : MethAt K CC "off" "Counts.off" s_Counts_off ["self", "meaning", "box"]) (GOf : FnOk P w K mg base CX0 7 mOf.f mOf.fd ["self", "meaning", "box"] (spSide K C CM CC false))
    (mB : MethAt K C "below" "Tree.below" s_Tree_below ["self", "box"]) (GB : FnOk P w K mg base CX0 5 mB.f mB.fd ["self", "box"] (spListOf C belowL))
    (mV : MethAt K CM "value" "Meaning.value" s_Meaning_value ["self", "box"]) (GV : FnOk P w K mg base CX0 5 mV.f mV.fd ["self", "box"] (spMValue C CM)) :
    FnOk P w K mg base CX0 8 f fd ["self", "meaning", "box"] (spAsks K C CM CC) := by
  refine F.ok sc_asks (fun vs H Q E h => ?_) (fun cdv A outer s H vs Q E hr h => ?_)
  · obtain ⟨c, m, z, rs, pr, v, rfl, _⟩ := h
    rfl
  · obtain ⟨c, m, z, rs, pr, v, rfl, hcm, hz, hq⟩ := h
    have hu := hu_of hr
    have r5 : Room 5 _ := hr.mono (by decide)
    obtain ⟨t, t2, hc, hm⟩ := id hcm.ex
    obtain ⟨dx, k, h1, ad, h2, h3⟩ := id hc.ex
    obtain ⟨tdx, tq, tfo, tk, tp, tqs, g1, _⟩ := id hc.tree.ex
    obtain ⟨mdx, mu, mk, m1, _⟩ := id hm.turns.ex
    have hv := hc.tree.val
    have l100 := hc.tree.len
    have noB : (tf tq tfo tk tp).lookup ("below" : Str) = none := tf_no _ _ _ _ (by decide +kernel) (by decide +kernel) (by decide +kernel) (by decide +kernel)
    have noV : (mf t2 mu mk (v "top")).lookup ("value" : Str) = none := by rfl
    have noN : ∀ {n : Str}, n ≠ ("tree" : Str) → n ≠ ("pairs" : Str) → (cf t k).lookup n = none := fun {n} a b => by
      unfold cf
      rw [lookup_putF, if_neg b, lookup_putF, if_neg a]
      rfl
    refine ⟨_, pss_cons (ps_set (i := 3) sc_asks.nd rfl (.inr rfl) (show PE _ _ (tDispB2 P w _ _ _ _) from pe_dispB2 (pps_cons pe_bl (pe_ix ix_tup (pe_meth (pv 0) TK.cl mOn.m GOn hr mOn.b .nil pass0 (pa_cons (pv 1) (pa_cons (pv 2) pa_nil))) pe_int (fun _ _ => rfl)) (pps_cons pe_bl (pe_ix ix_tup (pe_meth (pv 0) TK.cl mOf.m GOf hr mOf.b .nil pass0 (pa_cons (pv 1) (pa_cons (pv 2) pa_nil))) pe_int (fun _ _ => rfl)) pps_nil)) (by rfl) (by rfl) (fun z => by cases z) (by decide)))
      (pss_cons (ps_setLc (i := 4) (own := [("place", 5)]) (g := gName 5) (tt := tTest (tOp rEq (tGetB2 P w (tVar 3) (tMeth CM "value" (spMValue C CM) [] E0 (tVar 1) (tCons (tVar 5) tNil))) (tC (.int 0)))) (te := tVar 5) rfl sc_asks.nd rfl rfl (sw_true rfl rfl rfl (by decide +kernel)) (pi_list (pe_op op_cat (pe_lst (pa_cons (pv 2) pa_nil)) (pe_meth (pe_fld (pv 0) rfl) T.cl mB.m GB r5 mB.b .nil pass0 (pa_cons (pv 2) pa_nil)))) (blkOk_by (N := nAsks) (sc := defScope s_Counts_asks) (by decide +kernel))
          (fun _ _ _ _ _ => pg_name (i := 5) sc_asks.nd rfl (Or.inl rfl)) (fun _ _ _ _ _ => by exact pts_one (pt_cmpR op_eq (pe_getB2 (pv 3) (pe_meth (pv 1) M.cl mV.m GV r5 mV.b .nil pass0 (pa_cons (pv 5) pa_nil)) (fun _ _ => rfl)) pe_int (nomark _))) (fun _ _ _ _ _ => pv 5))
      (pss_one (ps_ret (pe_lc (own := [("place", 5)]) (g := gName 5) (tt := tTest (tOp rNe (tOp (rIxT K) (tDGet (tFld K (tVar 0) "pairs") (tVar 5)) (tC (.int 1))) (tC (.int 0)))) (te := tVar 5) rfl sc_asks.nd (pi_list (pv 4)) (blkOk_by (N := nAsks) (sc := defScope s_Counts_asks) (by decide +kernel))
          (fun _ _ _ _ _ => pg_name (i := 5) sc_asks.nd rfl (Or.inl rfl)) (fun _ _ _ _ _ => by exact pts_one (pt_cmpR op_ne (pe_ix ix_tup (pe_dget hu (pe_fld (pv 0) rfl) (pv 5) (fun _ _ => rfl)) pe_int (fun _ _ => rfl)) pe_int (nomark _))) (fun _ _ _ _ _ => pv 5))))), ?_⟩
    intro ld hld
    have s0 : Same H (upd H ld (.dK [])) := Same.new hld
    have e0 : (upd H ld (.dK [])) ld = some (.dK []) := upd_same
    generalize upd H ld (.dK []) = H0 at s0 e0
    refine ⟨_, rfl, c, dx, _, rfl, s0 _ _ h1, noN (by decide +kernel) (by decide +kernel), _, rfl, _, rfl, c, m, z, rs, pr, v, rfl, hcm.same s0, hz, fun a1 H1 s1 ha1 => ?_⟩
    refine ⟨a1, _, _, _, rfl, rfl, ha1, (by rfl : atI (rgV (numW rs pr v z true)) 0 = some (.int (numW rs pr v z true).lo)), ?_⟩
    have s01 := s0.trans s1
    refine ⟨_, rfl, c, dx, _, rfl, s01 _ _ h1, noN (by decide +kernel) (by decide +kernel), _, rfl, _, rfl, c, m, z, rs, pr, v, rfl, hcm.same s01, hz, fun a2 H2 s2 ha2 => ?_⟩
    refine ⟨a2, _, _, _, rfl, rfl, ha2, (by rfl : atI (rgV (numW rs pr v z false)) 0 = some (.int (numW rs pr v z false).lo)), ?_⟩
    refine ⟨s2 _ _ (s1 _ _ e0), _, _, rfl, fun _ => ?_⟩
    have s3 : Same H (upd H2 ld (BoolD P w ld (.int (numW rs pr v z true).lo) (.int (numW rs pr v z false).lo))) := fun b o e => by
      rw [upd_ne (ne_of_none e hld)]
      exact s2 _ _ (s01 _ _ e)
    have e3 : (upd H2 ld (BoolD P w ld (.int (numW rs pr v z true).lo) (.int (numW rs pr v z false).lo))) ld = some (BoolD P w ld (.int (numW rs pr v z true).lo) (.int (numW rs pr v z false).lo)) := upd_same
    generalize upd H2 ld (BoolD P w ld (.int (numW rs pr v z true).lo) (.int (numW rs pr v z false).lo)) = H3 at s3 e3 ⊢
    clear s0 e0 s1 ha1 s01 s2 ha2
    -- the places
    refine ⟨_, rfl, (by show 1 ≤ sizeLine; decide), fun l1 hl1 => ?_⟩
    have s4 : Same H3 (upd H3 l1 (.lst [V.str z])) := Same.new hl1
    have e4 : (upd H3 l1 (.lst [V.str z])) l1 = some (.lst [V.str z]) := upd_same
    generalize upd H3 l1 (.lst [V.str z]) = H4 at s4 e4
    have s34 := s3.trans s4
    refine ⟨_, rfl, c, CC, dx, _, _, rfl, s34 _ _ h1, TK.cl, TK.nt, cf_t _ _, t, tdx, _, rfl, s34 _ _ g1, noB, _, rfl, t, z, rs, rfl, hc.tree.same s34, mem_plc.mp hz, fun bl H5 hbl s5 e5 => ?_⟩
    have lb : (belowL rs z).length ≤ 100 := Nat.le_trans (below_len rs z) l100
    refine ⟨l1, bl, _, _, rfl, rfl, s5 _ _ e4, e5, szl (by rw [List.length_map]; show 1 + _ ≤ 1000; omega), fun pl hpl => ?_⟩
    have s6 := Same.new (o := .lst ([V.str z] ++ (belowL rs z).map V.str)) hpl
    have e6 : (upd H5 pl (.lst ([V.str z] ++ (belowL rs z).map V.str))) pl = some (.lst ((z :: belowL rs z).map V.str)) := upd_same
    generalize upd H5 pl (.lst ([V.str z] ++ (belowL rs z).map V.str)) = H6 at s6 e6
    have S6 := (s34.trans s5).trans s6
    have e3' := s6 _ _ (s5 _ _ (s4 _ _ e3))
    clear s3 s4 e4 s34 s5 s6 e5 e3 hpl hbl hl1
    have inP : ∀ y ∈ z :: belowL rs z, y ∈ plc rs := fun y hy => by
      rcases List.mem_cons.mp hy with h | h
      · rw [h]; exact hz
      · exact mem_plc.mpr (.inr (below_names h))
    have lz : (z :: belowL rs z).length ≤ 101 := by rw [List.length_cons]; omega
    unfold askL at hq
    generalize z :: belowL rs z = Z at e6 inP lz hq
    refine ⟨pl, rfl, ⟨_, SqL.of e6⟩, fun D1 hD1 => ?_⟩
    refine lc_list (K := K) (a := pl) (xs := Z.map V.str) (fun i H' => Same H6 H' ∧ H' D1 = some (.lst (((Z.take i).filter fun y => decide ((numW rs pr v z (v y)).lo = 0)).map V.str))) ⟨Same.new hD1, upd_same⟩ (fun i H' _ m => SqL.of (m.1 _ _ e6)) ?_ ?_
    · rintro i x H7 hx ⟨s7, e7⟩
      rw [List.getElem?_map] at hx
      obtain ⟨y, hy, rfl⟩ := Option.map_eq_some_iff.mp hx
      have hyp := inP y (List.mem_of_getElem? hy)
      have s7' := S6.trans s7
      have lt : ((Z.take i).filter fun y => decide ((numW rs pr v z (v y)).lo = 0)).length ≤ 200 := by
        have h1 := List.length_filter_le (fun y => decide ((numW rs pr v z (v y)).lo = 0)) (Z.take i)
        rw [List.length_take] at h1
        omega
      refine ⟨rfl, _, rfl, _, rfl, m, mdx, _, rfl, s7' _ _ m1, noV, _, rfl, m, t2, y, rs, _, _, rfl, hm.turns.same s7', mem_plc.mp hyp, ld, _, _, _, rfl, s7 _ _ e3', rfl, ?_⟩
      rw [val_turnsG hv v y hyp]
      have ev : (if v y = true then V.int (numW rs pr v z true).lo else V.int (numW rs pr v z false).lo) = V.int (numW rs pr v z (v y)).lo := by cases v y <;> rfl
      rw [ev]
      refine ⟨rfl, _, rfl, ?_⟩
      refine ite2 (fun hb => ?_) (fun hb => ?_)
      · have hb' : (numW rs pr v z (v y)).lo = 0 := V.int.inj (of_decide_eq_true hb)
        refine ⟨_, rfl, _, e7, small1000 (by rw [List.length_map]; omega), fun o' ob eb => ?_, ?_⟩
        · rw [upd_ne (fun q => by rw [q, hD1] at eb; cases eb)]
          exact s7 _ _ eb
        · rw [upd_same, filt_more hy, if_pos (decide_eq_true hb'), List.map_append]; rfl
      · have hb' : ¬ (numW rs pr v z (v y)).lo = 0 := fun e => hb (decide_eq_true (by rw [e]))
        refine ⟨s7, ?_⟩
        rw [filt_more hy, if_neg (fun q => hb' (of_decide_eq_true q)), List.append_nil]
        exact e7
    rintro H7 ⟨s7, e7⟩
    rw [List.length_map, List.take_length] at e7
    have S7 := S6.trans s7
    have inQ : ∀ y ∈ Z.filter fun y => decide ((numW rs pr v z (v y)).lo = 0), y ∈ plc rs := fun y hy => inP y (List.mem_filter.mp hy).1
    have lq : (Z.filter fun y => decide ((numW rs pr v z (v y)).lo = 0)).length ≤ 101 := Nat.le_trans (List.length_filter_le _ _) lz
    generalize (Z.filter fun y => decide ((numW rs pr v z (v y)).lo = 0)) = Y at e7 inQ lq hq
    clear e3' e6 s7 S6 inP
    -- those that may have some
    refine ⟨_, rfl, D1, rfl, ⟨_, SqL.of e7⟩, fun D2 hD2 => ?_⟩
    refine lc_list (K := K) (a := D1) (xs := Y.map V.str) (fun i H' => Same H7 H' ∧ H' D2 = some (.lst (((Y.take i).filter fun y => decide ((pr y).hi ≠ some 0)).map V.str))) ⟨Same.new hD2, upd_same⟩ (fun i H' _ m => SqL.of (m.1 _ _ e7)) ?_ ?_
    · rintro i x H8 hx ⟨s8, e8⟩
      rw [List.getElem?_map] at hx
      obtain ⟨y, hy, rfl⟩ := Option.map_eq_some_iff.mp hx
      have hyp := inQ y (List.mem_of_getElem? hy)
      have s8' := S7.trans s8
      have lt : ((Y.take i).filter fun y => decide ((pr y).hi ≠ some 0)).length ≤ 200 := by
        have h1 := List.length_filter_le (fun y => decide ((pr y).hi ≠ some 0)) (Y.take i)
        rw [List.length_take] at h1
        omega
      have dg : DGet H8 k (.str y) (some (.ref (ad y))) := .inl ⟨_, .inr y, .inl (s8' _ _ h2), rfl, (valV_kvX (fun z => V.ref (ad z)) hyp).symm⟩
      refine ⟨rfl, _, rfl, c, CC, dx, _, _, rfl, s8' _ _ h1, TK.cl, TK.np, cf_p _ _, _, rfl, k, _, rfl, dg, ad y, _, _, _, rfl, rfl, sqT_same (h3 y hyp) s8', (by rfl : atI (rgV (pr y)) 1 = some (prV (pr y).hi)), ?_⟩
      have sc : scal (prV (pr y).hi) (V.int 0) = true := by cases (pr y).hi <;> rfl
      refine ⟨sc, _, rfl, ?_⟩
      have ed : (!decide (prV (pr y).hi = V.int 0)) = decide ((pr y).hi ≠ some 0) := by
        cases hh : (pr y).hi with
        | none => rfl
        | some q =>
          by_cases q0 : q = 0
          · rw [q0]; rfl
          · have h1 : prV (some q) ≠ V.int 0 := fun e => q0 (V.int.inj e)
            have h2 : (some q : Option Int) ≠ some 0 := fun e => q0 (Option.some.inj e)
            simp [h1, h2]
      rw [ed]
      refine ite2 (fun hb => ?_) (fun hb => ?_)
      · refine ⟨_, rfl, _, e8, small1000 (by rw [List.length_map]; omega), fun o' ob eb => ?_, ?_⟩
        · rw [upd_ne (fun q => by rw [q, hD2] at eb; cases eb)]
          exact s8 _ _ eb
        · rw [upd_same, filt_more hy, if_pos hb, List.map_append]; rfl
      · refine ⟨s8, ?_⟩
        rw [filt_more hy, if_neg hb, List.append_nil]
        exact e8
    rintro H8 ⟨s8, e8⟩
    rw [List.length_map, List.take_length] at e8
    exact hq D2 H8 (S7.free hD2) (S7.trans s8) e8
end
end Ts

set_option maxRecDepth 100000
set_option maxHeartbeats 4000000
namespace Ts
open PySem L2
/-! ### on whose numbers it hangs -/
theorem zero_side {pr : Str → Rg} {l : List Str} (hok : ∀ y ∈ l, (pr y).ok) {f : Str → Int} (hf : ∀ y ∈ l, f y ∈ numsR (pr y)) {v : Str → Bool} {b : Bool} (h : ¬ 0 < sumB f v b l) : (∀ y ∈ l, v y = b → f y = 0 ∧ (pr y).lo = 0) ∧ (sideR pr l v b).lo = 0 := by
  have hm : ∀ y ∈ l.filter fun y => decide (v y = b), (pr y).ok := fun y hy => hok y (List.mem_filter.mp hy).1
  have hn : ∀ y ∈ l.filter fun y => decide (v y = b), 0 ≤ f y := fun y hy => by
    have h1 := (hm y hy).1
    have h2 := (nums_mem (hf y (List.mem_filter.mp hy).1)).1
    omega
  rw [sumB_eq] at h
  have all : ∀ y ∈ l, v y = b → f y = 0 ∧ (pr y).lo = 0 := fun y hy hv => by
    have hy' : y ∈ l.filter fun y => decide (v y = b) := List.mem_filter.mpr ⟨hy, decide_eq_true hv⟩
    have h0 := hn y hy'
    have h1 := (hm y hy').1
    have h2 := (nums_mem (hf y hy)).1
    by_cases q : 0 < f y
    · exact absurd ((sum_pos hn).mpr ⟨y, hy', q⟩) h
    · exact ⟨by omega, by omega⟩
  exact ⟨all, (rg_lo hm).mpr fun y hy => (all y (List.mem_filter.mp hy).1 (of_decide_eq_true (List.mem_filter.mp hy).2)).2⟩
theorem hang_half {pr : Str → Rg} {l : List Str} (hok : ∀ y ∈ l, (pr y).ok) {f g : Str → Int} (hf : ∀ y ∈ l, f y ∈ numsR (pr y)) (hg : ∀ y ∈ l, g y ∈ numsR (pr y)) {v : Str → Bool} {y : Str} (he : ∀ x ∈ l, x ≠ y → g x = f x)
    (n : ¬ 0 < sumB f v (v y) l) (p : 0 < sumB g v (v y) l) : (sideR pr l v (v y)).lo = 0 ∧ (pr y).hi ≠ some 0 := by
  obtain ⟨z, lo⟩ := zero_side hok hf n
  refine ⟨lo, ?_⟩
  have hn : ∀ x ∈ l.filter fun x => decide (v x = v y), 0 ≤ g x := fun x hx => by
    have h1 := (hok x (List.mem_filter.mp hx).1).1
    have h2 := (nums_mem (hg x (List.mem_filter.mp hx).1)).1
    omega
  rw [sumB_eq] at p
  obtain ⟨x, hx, hp⟩ := (sum_pos hn).mp p
  obtain ⟨hxl, hxv⟩ := List.mem_filter.mp hx
  have hxy : x = y := by
    by_cases q : x = y
    · exact q
    · have h1 := (z x hxl (of_decide_eq_true hxv)).1
      have h2 := he x hxl q
      omega
  subst hxy
  intro e
  have := (nums_mem (hg x hxl)).2 0 e
  omega
theorem sum_congrB {f g : Str → Int} {v : Str → Bool} {b : Bool} {l : List Str} (h : ∀ x ∈ l, v x = b → g x = f x) : sumB g v b l = sumB f v b l := by
  rw [sumB_eq, sumB_eq]
  congr 1
  exact List.map_congr_left fun x hx => h x (List.mem_filter.mp hx).1 (of_decide_eq_true (List.mem_filter.mp hx).2)
theorem word_ne {v : Str → Bool} {l : List Str} {f g : Str → Int} (b : Bool) (he : ∀ x ∈ l, v x = (!b) → g x = f x) : wordF v l g ≠ wordF v l f ↔ decide (0 < sumB g v b l) ≠ decide (0 < sumB f v b l) := by
  have e := sum_congrB (v := v) (b := !b) he
  unfold wordF
  cases b with
  | true =>
    have e : sumB g v false l = sumB f v false l := e
    rw [e]
    exact ⟨fun h q => h (by rw [q]), fun h q => h (shownS_inj q).1⟩
  | false =>
    have e : sumB g v true l = sumB f v true l := e
    rw [e]
    exact ⟨fun h q => h (by rw [q]), fun h q => h (shownS_inj q).2⟩
theorem hang_iff {pr : Str → Rg} {l : List Str} (hok : ∀ y ∈ l, (pr y).ok) {v : Str → Bool} {y : Str} (hy : y ∈ l) : hangF y l (allF pr l) v = true ↔ (sideR pr l v (v y)).lo = 0 ∧ (pr y).hi ≠ some 0 := by
  have key : hangF y l (allF pr l) v = true ↔ ∃ f ∈ allF pr l, ∃ g ∈ allF pr l, restF y l g = restF y l f ∧ wordF v l g ≠ wordF v l f := by
    unfold hangF hangP pairsW cnd
    rw [List.any_map, List.any_eq_true]
    constructor
    · rintro ⟨f, hf, h⟩
      have h : ((allF pr l).map fun f => (restF y l f, wordF v l f)).any (fun q => decide (q.1 = restF y l f) && decide (q.2 ≠ wordF v l f)) = true := h
      rw [List.any_map, List.any_eq_true] at h
      obtain ⟨g, hg, h⟩ := h
      have h := Bool.and_eq_true_iff.mp h
      exact ⟨f, hf, g, hg, of_decide_eq_true h.1, of_decide_eq_true h.2⟩
    · rintro ⟨f, hf, g, hg, h1, h2⟩
      refine ⟨f, hf, ?_⟩
      show ((allF pr l).map fun f => (restF y l f, wordF v l f)).any (fun q => decide (q.1 = restF y l f) && decide (q.2 ≠ wordF v l f)) = true
      rw [List.any_map, List.any_eq_true]
      exact ⟨g, hg, Bool.and_eq_true_iff.mpr ⟨decide_eq_true h1, decide_eq_true h2⟩⟩
  have rest : ∀ {f g : Str → Int}, restF y l g = restF y l f ↔ ∀ x ∈ l, x ≠ y → g x = f x := fun {f g} => by
    unfold restF
    rw [List.map_inj_left]
    exact ⟨fun h x hx n => h x (List.mem_filter.mpr ⟨hx, decide_eq_true n⟩), fun h x hx => h x (List.mem_filter.mp hx).1 (of_decide_eq_true (List.mem_filter.mp hx).2)⟩
  have oth : ∀ {f g : Str → Int}, (∀ x ∈ l, x ≠ y → g x = f x) → ∀ x ∈ l, v x = (!(v y)) → g x = f x := fun {f g} h x hx hv => h x hx fun e => by
    rw [e] at hv
    cases hq : v y <;> rw [hq] at hv <;> cases hv
  rw [key]
  constructor
  · rintro ⟨f, hf, g, hg, h1, h2⟩
    have h1 := rest.mp h1
    have h2 := (word_ne (v y) (oth h1)).mp h2
    by_cases c : 0 < sumB f v (v y) l
    · have n : ¬ 0 < sumB g v (v y) l := fun q => h2 (by rw [decide_eq_true q, decide_eq_true c])
      exact hang_half hok (allF_mem hg) (allF_mem hf) (fun x hx hn => (h1 x hx hn).symm) n c
    · have p : 0 < sumB g v (v y) l := by
        by_cases q : 0 < sumB g v (v y) l
        · exact q
        · exact absurd (by rw [decide_eq_false q, decide_eq_false c]) h2
      exact hang_half hok (allF_mem hf) (allF_mem hg) h1 c p
  · rintro ⟨lo, hi⟩
    have hm : ∀ x ∈ l.filter fun x => decide (v x = v y), (pr x).ok := fun x hx => hok x (List.mem_filter.mp hx).1
    have l0 := (rg_lo hm).mp lo
    have hyl : y ∈ l.filter fun x => decide (v x = v y) := List.mem_filter.mpr ⟨hy, decide_eq_true rfl⟩
    obtain ⟨f, hf, ef⟩ := allF_get (pr := pr) (l := l) (c := fun x => (pr x).lo) fun x hx => nums_lo (hok x hx)
    obtain ⟨g, hg, eg⟩ := allF_get (pr := pr) (l := l) (c := fun x => if x = y then (pr x).lo + 1 else (pr x).lo) fun x hx => by
      by_cases c : x = y
      · rw [if_pos c, c]; exact nums_up (hok y hy) (l0 y hyl) hi
      · rw [if_neg c]; exact nums_lo (hok x hx)
    have he : ∀ x ∈ l, x ≠ y → g x = f x := fun x hx n => by rw [eg x hx, ef x hx, if_neg n]
    refine ⟨f, hf, g, hg, rest.mpr he, (word_ne (v y) (oth he)).mpr ?_⟩
    have nf : ¬ 0 < sumB f v (v y) l := by
      rw [sumB_eq, sum_pos fun x hx => by rw [ef x (List.mem_filter.mp hx).1]; exact (hm x hx).1]
      rintro ⟨x, hx, hp⟩
      rw [ef x (List.mem_filter.mp hx).1] at hp
      have := l0 x hx
      omega
    have pg : 0 < sumB g v (v y) l := by
      rw [sumB_eq, sum_pos fun x hx => by
        have h1 := (nums_mem (allF_mem hg x (List.mem_filter.mp hx).1)).1
        have h2 := (hm x hx).1
        omega]
      refine ⟨y, hyl, ?_⟩
      rw [eg y hy, if_pos rfl]
      have := l0 y hyl
      omega
    rw [decide_eq_true pg, decide_eq_false nf]
    decide
theorem may_one {g : Rg} (h : g.ok) : (mayB g).length = 1 ↔ ¬ (g.lo = 0 ∧ g.hi ≠ some 0) := by
  unfold mayB
  by_cases c : g.lo = 0
  · by_cases d : g.hi = some 0
    · simp [c, d]
    · simp [c, d]
  · have d : g.hi ≠ some 0 := fun e => by
      have h1 := h.1
      have h2 := h.2 0 e
      omega
    simp [c, d]
theorem side_ok {pr : Str → Rg} {l : List Str} (hok : ∀ y ∈ l, (pr y).ok) (v : Str → Bool) (b : Bool) : (sideR pr l v b).lo = 0 ∨ (sideR pr l v b).hi ≠ some 0 := by
  have hm : ∀ y ∈ l.filter fun y => decide (v y = b), (pr y).ok := fun y hy => hok y (List.mem_filter.mp hy).1
  by_cases c : (sideR pr l v b).lo = 0
  · exact .inl c
  · refine .inr ((rg_hi hm).mpr ?_)
    by_cases q : ∃ y ∈ l.filter fun y => decide (v y = b), (pr y).hi ≠ some 0
    · exact q
    · refine absurd ((rg_lo hm).mpr fun y hy => ?_) c
      have e : (pr y).hi = some 0 := by
        by_cases z : (pr y).hi = some 0
        · exact z
        · exact absurd ⟨y, hy, z⟩ q
      have h1 := (hm y hy).1
      have h2 := (hm y hy).2 0 e
      omega
theorem may_one' {pr : Str → Rg} {l : List Str} (hok : ∀ y ∈ l, (pr y).ok) (v : Str → Bool) (b : Bool) : (mayB (sideR pr l v b)).length = 1 ↔ ¬ ((sideR pr l v b).lo = 0 ∧ (sideR pr l v b).hi ≠ some 0) := by
  have h := side_ok hok v b
  unfold mayB
  by_cases c : (sideR pr l v b).lo = 0
  · by_cases d : (sideR pr l v b).hi = some 0
    · simp [c, d]
    · simp [c, d]
  · have d := h.resolve_left c
    simp [c, d]
theorem mul_one_iff' {a b : Nat} : a * b = 1 ↔ a = 1 ∧ b = 1 := ⟨fun h => ⟨Nat.dvd_one.mp ⟨b, h.symm⟩, Nat.dvd_one.mp ⟨a, by rw [Nat.mul_comm]; exact h.symm⟩⟩, fun ⟨h1, h2⟩ => by rw [h1, h2]⟩
theorem one_iff {pr : Str → Rg} {l : List Str} (hok : ∀ y ∈ l, (pr y).ok) (v : Str → Bool) : (wordsB (mayB (sideR pr l v true)) (mayB (sideR pr l v false))).length = 1 ↔ ∀ y ∈ l, ¬ ((sideR pr l v (v y)).lo = 0 ∧ (pr y).hi ≠ some 0) := by
  rw [wordsB_len, mul_one_iff', may_one' hok, may_one' hok]
  have hm : ∀ b, ∀ y ∈ l.filter fun y => decide (v y = b), (pr y).ok := fun b y hy => hok y (List.mem_filter.mp hy).1
  have side : ∀ b, ¬ ((sideR pr l v b).lo = 0 ∧ (sideR pr l v b).hi ≠ some 0) ↔ ∀ y ∈ l, v y = b → ¬ ((sideR pr l v (v y)).lo = 0 ∧ (pr y).hi ≠ some 0) := fun b => by
    constructor
    · rintro h y hy rfl ⟨h1, h2⟩
      exact h ⟨h1, (rg_hi (hm _)).mpr ⟨y, List.mem_filter.mpr ⟨hy, decide_eq_true rfl⟩, h2⟩⟩
    · rintro h ⟨h1, h2⟩
      obtain ⟨y, hy, h3⟩ := (rg_hi (hm b)).mp h2
      obtain ⟨hyl, hyv⟩ := List.mem_filter.mp hy
      have hyv := of_decide_eq_true hyv
      exact h y hyl hyv ⟨by rw [hyv]; exact h1, h3⟩
  rw [side true, side false]
  constructor
  · rintro ⟨h1, h2⟩ y hy
    cases hv : v y with
    | true => have := h1 y hy hv; rw [hv] at this; exact this
    | false => have := h2 y hy hv; rw [hv] at this; exact this
  · exact fun h => ⟨fun y hy _ => h y hy, fun y hy _ => h y hy⟩
/-! ### in the rows' order -/
theorem way_folder {rs : List Row} (hv : Valid rs) : ∀ (n i : Nat) (r : Row), i ≤ n → rs[i]? = some r → ∀ z ∈ wayOf rs r.nm, z ≠ r.nm → ∃ q ∈ rs, q.nm = z ∧ q.ki = ("folder" : Str)
  | n, i, r, hi, hr, z, hz, hn => by
    have hrm := List.mem_of_getElem? hr
    rw [way_step hv hrm] at hz
    have hz : z ∈ wayOf rs r.fo := by
      rcases List.mem_append.mp hz with h | h
      · exact h
      · exact absurd (List.mem_singleton.mp h) hn
    rcases (hv i r hr).home with e | ⟨q, hq, e, k⟩
    · rw [e, way_top hv] at hz
      cases hz
    · have hqm : q ∈ rs := List.mem_of_mem_take hq
      by_cases c : z = q.nm
      · exact ⟨q, hqm, c.symm, k⟩
      · obtain ⟨j, hj, ej⟩ := List.mem_iff_getElem.mp hq
        rw [List.length_take] at hj
        have hqj : rs[j]? = some q := by
          rw [List.getElem_take] at ej
          rw [← ej]
          exact List.getElem?_eq_getElem (by omega)
        match n, hi with
        | 0, hi => exact absurd hj (by omega)
        | n + 1, hi => exact way_folder hv n j q (by omega) hqj z (by rw [e]; exact hz) c
theorem below_leaf {rs : List Row} (hv : Valid rs) {r : Row} (hr : r ∈ rs) (hk : r.ki ≠ ("folder" : Str)) : belowL rs r.nm = [] := by
  unfold belowL
  rw [List.filter_eq_nil_iff.mpr fun q hq h => ?_]
  · rfl
  · unfold isIn at h
    obtain ⟨h1, h2⟩ := Bool.and_eq_true_iff.mp h
    have ht : r.nm ≠ ("top" : Str) := fun e => top_not hv (e ▸ List.mem_map.mpr ⟨r, hr, rfl⟩)
    rw [decide_eq_false ht, Bool.false_or] at h2
    obtain ⟨i, hi, e⟩ := List.mem_iff_getElem.mp hq
    obtain ⟨p, hp, e1, e2⟩ := way_folder hv i i q (Nat.le_refl _) (by rw [← e]; exact List.getElem?_eq_getElem hi) r.nm (of_decide_eq_true h2) (fun e => of_decide_eq_true h1 e.symm)
    rw [names_inj hv hp hr e1] at e2
    exact hk e2
/-- the shut ones held, on whose numbers it hangs -/
def askedL (rs : List Row) (pr : Str → Rg) (v : Str → Bool) (z : Str) : List Str := ((rs.filter fun r => decide (r.nm ∈ heldL rs z) && decide (r.ki = ("shut" : Str))).map (·.nm)).filter fun y => hangF y (heldL rs z) (allF pr (heldL rs z)) v
theorem mem_held {rs : List Row} (hv : Valid rs) {z : Str} {r : Row} (hr : r ∈ rs) : r.nm ∈ heldL rs z ↔ r.ki ≠ ("folder" : Str) ∧ r.nm ∈ withinC rs z := by
  unfold heldL
  rw [List.mem_map]
  constructor
  · rintro ⟨q, hq, e⟩
    obtain ⟨h1, h2⟩ := List.mem_filter.mp hq
    rw [names_inj hv h1 hr e] at h2
    unfold heldP at h2
    exact ⟨of_decide_eq_true (Bool.and_eq_true_iff.mp h2).1, of_decide_eq_true (Bool.and_eq_true_iff.mp h2).2⟩
  · rintro ⟨h1, h2⟩
    exact ⟨r, List.mem_filter.mpr ⟨hr, by unfold heldP; rw [decide_eq_true h1, decide_eq_true h2]; rfl⟩, rfl⟩
theorem held_names {rs : List Row} {z y : Str} (h : y ∈ heldL rs z) : y ∈ names rs := by
  obtain ⟨r, hr, rfl⟩ := List.mem_map.mp h
  exact List.mem_map.mpr ⟨r, (List.mem_filter.mp hr).1, rfl⟩
theorem asked_eq {rs : List Row} (hv : Valid rs) {L : List Str} {g : Str → Rg} (hg : ∀ z ∈ L, (g z).ok) (v : Str → Bool) {z : Str} (hz : z ∈ plc rs) : askedL rs (pairR rs L g) v z = askL rs (pairR rs L g) v z := by
  have hok : ∀ y ∈ heldL rs z, (pairR rs L g y).ok := fun y _ => pair_ok hg y
  have num : ∀ b, numW rs (pairR rs L g) v z b = sideR (pairR rs L g) (heldL rs z) v b := fun b => (held_num hv v hz b).symm
  have prow : ∀ {r : Row}, r ∈ rs → pairR rs L g r.nm = if r.ki = ("shut" : Str) then (if r.nm ∈ L then g r.nm else anyI) else if r.ki = ("item" : Str) then oneI else noI := fun {r} hr => by
    unfold pairR
    rw [names_inj2 hv hr]
  -- what is asked is shut
  have shut : ∀ {y : Str}, y ∈ withinC rs z → (numW rs (pairR rs L g) v z (v y)).lo = 0 → (pairR rs L g y).hi ≠ some 0 → ∃ r ∈ rs, r.nm = y ∧ r.ki = ("shut" : Str) := fun {y} hy h1 h2 => by
    by_cases hn : y ∈ names rs
    · obtain ⟨r, hr, rfl⟩ := List.mem_map.mp hn
      have hp := prow hr
      by_cases k1 : r.ki = ("shut" : Str)
      · exact ⟨r, hr, rfl, k1⟩
      · rw [if_neg k1] at hp
        by_cases k2 : r.ki = ("item" : Str)
        · rw [if_pos k2] at hp
          have nf : r.ki ≠ ("folder" : Str) := by rw [k2]; decide +kernel
          rw [num] at h1
          have := (rg_lo fun y hy => hok y (List.mem_filter.mp hy).1).mp h1 r.nm (List.mem_filter.mpr ⟨(mem_held hv hr).mpr ⟨nf, hy⟩, decide_eq_true rfl⟩)
          rw [hp] at this
          exact absurd this (by decide)
        · rw [if_neg k2] at hp
          rw [hp] at h2
          exact absurd rfl h2
    · have hp : pairR rs L g y = noI := by
        unfold pairR
        cases e : rowOf rs y with
        | none => rfl
        | some r => exact absurd (rowOf_in e) hn
      rw [hp] at h2
      exact absurd rfl h2
  have wsub : ∀ y ∈ withinC rs z, y = z ∨ y ∈ names rs := fun y hy => (List.mem_cons.mp hy).imp id below_names
  -- the members
  have memA : ∀ y, y ∈ askL rs (pairR rs L g) v z ↔ y ∈ withinC rs z ∧ (numW rs (pairR rs L g) v z (v y)).lo = 0 ∧ (pairR rs L g y).hi ≠ some 0 := fun y => by
    unfold askL
    rw [List.mem_filter, List.mem_filter]
    exact ⟨fun ⟨⟨h1, h2⟩, h3⟩ => ⟨h1, of_decide_eq_true h2, of_decide_eq_true h3⟩, fun ⟨h1, h2, h3⟩ => ⟨⟨h1, decide_eq_true h2⟩, decide_eq_true h3⟩⟩
  have memB : ∀ y, y ∈ askedL rs (pairR rs L g) v z ↔ y ∈ withinC rs z ∧ (numW rs (pairR rs L g) v z (v y)).lo = 0 ∧ (pairR rs L g y).hi ≠ some 0 := fun y => by
    unfold askedL
    rw [List.mem_filter]
    constructor
    · rintro ⟨h1, h2⟩
      obtain ⟨r, hr, rfl⟩ := List.mem_map.mp h1
      obtain ⟨hr, h3⟩ := List.mem_filter.mp hr
      have hh := of_decide_eq_true (Bool.and_eq_true_iff.mp h3).1
      obtain ⟨h4, h5⟩ := (hang_iff hok hh).mp h2
      exact ⟨((mem_held hv hr).mp hh).2, by rw [num]; exact h4, h5⟩
    · rintro ⟨h1, h2, h3⟩
      obtain ⟨r, hr, rfl, k⟩ := shut h1 h2 h3
      have nf : r.ki ≠ ("folder" : Str) := by rw [k]; decide +kernel
      have hh := (mem_held hv hr).mpr ⟨nf, h1⟩
      refine ⟨List.mem_map.mpr ⟨r, List.mem_filter.mpr ⟨hr, by rw [decide_eq_true hh, decide_eq_true k]; rfl⟩, rfl⟩, (hang_iff hok hh).mpr ⟨by rw [← num]; exact h2, h3⟩⟩
  have subB : (askedL rs (pairR rs L g) v z).Sublist (names rs) := by
    unfold askedL names
    exact List.filter_sublist.trans (List.Sublist.map _ List.filter_sublist)
  have subA : (askL rs (pairR rs L g) v z).Sublist (names rs) := by
    by_cases c : z ∈ askL rs (pairR rs L g) v z
    · obtain ⟨h1, h2, h3⟩ := (memA z).mp c
      obtain ⟨r, hr, rfl, k⟩ := shut h1 h2 h3
      unfold askL
      rw [below_leaf hv hr (by rw [k]; decide +kernel)]
      exact List.filter_sublist.trans (List.filter_sublist.trans (List.singleton_sublist.mpr (List.mem_map.mpr ⟨r, hr, rfl⟩)))
    · have e : askL rs (pairR rs L g) v z = ((belowL rs z).filter fun y => decide ((numW rs (pairR rs L g) v z (v y)).lo = 0)).filter fun y => decide ((pairR rs L g y).hi ≠ some 0) := by
        unfold askL at c ⊢
        rw [List.filter_cons] at c ⊢
        by_cases q : decide ((numW rs (pairR rs L g) v z (v z)).lo = 0) = true
        · rw [if_pos q] at c ⊢
          rw [List.filter_cons] at c ⊢
          by_cases q2 : decide ((pairR rs L g z).hi ≠ some 0) = true
          · rw [if_pos q2] at c
            exact absurd (List.mem_cons_self ..) c
          · rw [if_neg q2]
        · rw [if_neg q]
      rw [e]
      unfold belowL names
      exact List.filter_sublist.trans (List.filter_sublist.trans (List.Sublist.map _ List.filter_sublist))
  rw [← filter_of_sub subB hv.nodup, ← filter_of_sub subA hv.nodup]
  exact List.filter_congr fun y _ => decide_eq_decide.mpr ((memB y).trans (memA y).symm)
end Ts

set_option maxRecDepth 100000
set_option maxHeartbeats 4000000
namespace L2
open PySem PySem.Spec PyProof.Rows
section
variable {X : Cx}
/-- sorted(t) of a tuple of texts -/
theorem cr_sortedT : CallR X (.builtin "sorted") (fun vs H Q => ∃ (a : Addr) (xs : List Str), vs = [V.ref a] ∧ SqT X.K H a (xs.map V.str) ∧ xs.length < 64 ∧
    ∀ (ys : List Str) (p : Addr), ys.Perm xs → sortedS ys = true → H p = none → Q (.ref p) (upd H p (.lst (ys.map V.str)))) := by
  intro pins s σ H vs us Q I r h
  obtain ⟨a, xs, rfl, hs, h64, q⟩ := h
  obtain ⟨its, rv, pl, hz⟩ := I.tuple hs
  obtain ⟨o, ho, hc, n, hd⟩ := pl
  rw [Vals.ref1 r]
  have hal : its.length = xs.length := by rw [← rv.length, List.length_map]
  have hS : StrsAre its xs := rv.strs
  refine Calls.call_function_entry PyProof.Rows.kind_sorted PyProof.Rows.plain_sorted PyProof.Rows.entry_sorted (PyProof.Rows.args_sorted1 _) ?_
  unfold Builtin.«sorted»
  refine wpAny_bind (m := checkCount "sorted" 1 1 _) (wpAny_pure ?_)
  refine wpAny_bind (wpAny_collect_seq a (.inr rfl) ho hc hd (fun h' hk => ?_) (by simp only [List.size_toArray]; rw [hal, sizeLine_eq]; omega))
  have I1 : Inv X pins σ H { s with heap := h', toks := s.toks } := I.kept hk
  refine wpAny_bind (wpAny_newList ?_ (by simp only [List.size_toArray, Array.length_toList]; rw [hal, sizeLine_eq]; omega))
  have hoL : (h'.push (seqObj "list" its.toArray 0)).get? h'.objs.size = some (seqObj "list" its.toArray 0) := Heap.get?_push_size _ rfl
  have ea : its.toArray.toList.toArray = its.toArray := by simp
  show wpAny _ _ _ _ _ { s with heap := h'.push (seqObj "list" its.toArray 0) }
  refine wpAny_bind (wpAny_holding (wpAny_call_entry PyProof.Rows.slot_list_sort ⟨_, hoL, rfl⟩ PyProof.Rows.entry_list_sort
    (list_sort_treeK strKind_oneLt (s := { s with heap := h'.push (seqObj "list" its.toArray 0) }) hoL hS.keysOf (fun v₁ v₂ rest e => keyKind_strs (by rw [← e]; exact hS)) (by rw [hal]; exact h64) fun st' hp hs => ⟨_, rfl, ?_⟩)
    (PyProof.Rows.args_list_sort _)))
  obtain ⟨ys, g1, g2, g3⟩ := sorted_out_str hS hp hs
  obtain ⟨e', he'⟩ := PyProof.Rows.sortedHeap_at (vs := its) (out := (arrOf st').map (·.2)) hoL
  have hlen : (ys.map V.str).length ≤ sizeLine := by
    rw [List.length_map, g2.length_eq]
    exact Nat.le_trans (Nat.le_of_lt h64) (by decide)
  refine wpAny_pure ⟨_, rfl, .ref h'.objs.size, upd H h'.objs.size (.lst (ys.map V.str)), I1.laid (t' := s.toks) (fun b u e => ?_) (Nat.le_refl _)
    (show ObjOk X.prog X.w _ _ _ (.lst (ys.map V.str)) from ⟨hlen, ((arrOf st').map (·.2)).toList, e', vals_of_strs g1, by rw [Array.toArray_toList]; exact he'⟩), rfl, q ys _ g2 g3 (I1.hok.fresh (Nat.le_refl _))⟩
  have hb : b < h'.objs.size := Heap.lt_size e
  rw [PyProof.Rows.sortedHeap_old (Nat.ne_of_lt hb) (by rw [size_push']; exact Nat.lt_succ_of_lt hb)]
  exact Heap.get?_push_of_some _ e
end
end L2

set_option maxRecDepth 100000
set_option maxHeartbeats 4000000
namespace Ts
open PySem L2 PySem.Spec PyProof.Rows PySem.Froz
/-! ### sets of texts that are walked through -/
def strOf (e : Int × Value) : Str := match e.2 with | .str x _ => x | _ => Str.empty
def Led (w : World) (t : SetTable) : Prop := w.params.followText "set-order" = true ∨ t.led = true
structure SetD (P : Program) (w : World) (D : SD) (l : List Str) : Prop where
  ok : TxOk P w D l
  pm : (D.1.toList.map strOf).Perm l
  ris : Ris D.2.2.place.toList
  led : Led w D.2.2
def SetS (P : Program) (w : World) (h : Heap) (a : Addr) (l : List Str) : Prop := ∃ D : SD, h.get? a = some (sObj "set" D) ∧ SetD P w D l
section
variable {P : Program} {w : World} {A : Around} {E : Value → Shared → Prop} {s : Shared}
theorem tail_pm (ep : Nat) (es1 : Array (Int × Value)) (t2 : SetTable) (b : Bool) (r : Ris t2.place.toList) (hl : Led w t2) : (tailTx ep es1 t2 b).1.toList.Perm es1.toList ∧ Ris (tailTx ep es1 t2 b).2.2.place.toList ∧ Led w (tailTx ep es1 t2 b).2.2 := by
  unfold tailTx
  by_cases c : (!b && t2.tooFull) = true
  · rw [if_pos c]
    refine ⟨relayAll_perm t2 es1 _, relayAll_ris t2 es1 _, hl.imp id fun z => ?_⟩
    rw [relayAll_led]
    exact z
  · rw [if_neg c]
    exact ⟨List.Perm.refl _, r, hl⟩
theorem SetD.add {D : SD} {l : List Str} (h : SetD P w D l) (k : Str) (u : Tok) : SetD P w (addTx (hashStr w k) (.str k u) D) (k :: l) := by
  have hp := layNew_perm D.2.2 D.1 (hashStr w k) (.str k u)
  rw [Array.toList_push] at hp
  have hr := layNew_ris D.2.2 D.1 (hashStr w k) (.str k u) h.ris
  have hl : Led w (layNew D.2.2 D.1 (hashStr w k) (.str k u)).2.1 := h.led.imp id fun z => by rw [layNew_led]; exact z
  have hr2 : Ris (if (layNew D.2.2 D.1 (hashStr w k) (.str k u)).2.1.plain = true then { (layNew D.2.2 D.1 (hashStr w k) (.str k u)).2.1 with plain := false } else (layNew D.2.2 D.1 (hashStr w k) (.str k u)).2.1).place.toList := by
    split <;> exact hr
  have hl2 : Led w (if (layNew D.2.2 D.1 (hashStr w k) (.str k u)).2.1.plain = true then { (layNew D.2.2 D.1 (hashStr w k) (.str k u)).2.1 with plain := false } else (layNew D.2.2 D.1 (hashStr w k) (.str k u)).2.1) := by
    split <;> exact hl
  obtain ⟨q1, q2, q3⟩ := tail_pm D.2.1 (layNew D.2.2 D.1 (hashStr w k) (.str k u)).1 _ (layNew D.2.2 D.1 (hashStr w k) (.str k u)).2.2.1 hr2 hl2
  refine ⟨add_ok u h.ok, ?_, q2, q3⟩
  have q4 := (q1.trans hp).map strOf
  rw [List.map_append] at q4
  exact q4.trans ((List.perm_append_singleton _ _).trans (List.Perm.cons _ h.pm))
/-- the add of a text that is there -/
theorem has_add {a : Addr} {T : String} {D : SD} {l : List Str} {k : Str} {u : Tok} {Q : Bool → Shared → Prop} (ho : s.heap.get? a = some (sObj T D)) (F : TxOk P w D l) (hk : k ∈ l) (hb : l.length < scanBound)
    (h : Q false s) : wpAny (model P w) A (setAddHashed a (.str k u) (hashStr w k)) Q E s := by
  obtain ⟨es, ep, t⟩ := D
  have hsz : es.size = l.length := F.sz
  have hb0 : es.size < scanBound := by omega
  obtain ⟨e, he, hz⟩ := (F.mem k).mp hk
  obtain ⟨j, hj⟩ : ∃ j, List.findIdx? (fun e => (strKind P w).is k e.2) es.toList = some j := by
    cases hr : List.findIdx? (fun e => (strKind P w).is k e.2) es.toList with
    | some j => exact ⟨j, rfl⟩
    | none =>
      have c := List.findIdx?_eq_none_iff.mp hr e he
      rw [hz] at c
      cases c
  unfold setAddHashed setAddHashedIn
  refine wpAny_holding (wpAny_bind (wpAny_setState_of ho rfl F.fit ?_))
  dsimp only
  rw [byScan_of rfl hb0 F.el]
  simp only [↓reduceIte]
  unfold setAddByScan
  refine wpAny_bind ?_
  refine wpAny_bind (wpAny_rule ?_)
  refine wpAny_bind (wpAny_setScan_of (knd := strKind P w) (k := k) (is_str k u) ho rfl F.fit F.el ?_)
  rw [hj]
  dsimp only
  exact wpAny_pure (wpAny_pure h)
end
/-- the unlike ones of the first texts -/
def ddS (xs : List Str) : Nat → List Str
  | 0 => []
  | i + 1 => if xs.getD i Str.empty ∈ ddS xs i then ddS xs i else xs.getD i Str.empty :: ddS xs i
theorem ddS_len (xs : List Str) : ∀ i, (ddS xs i).length ≤ i
  | 0 => Nat.le_refl _
  | i + 1 => by
    have ih := ddS_len xs i
    unfold ddS
    split
    · omega
    · rw [List.length_cons]; omega
theorem ddS_nd (xs : List Str) : ∀ i, (ddS xs i).Nodup
  | 0 => List.nodup_nil
  | i + 1 => by
    have ih := ddS_nd xs i
    unfold ddS
    split
    · exact ih
    · rename_i h
      exact List.nodup_cons.mpr ⟨h, ih⟩
theorem ddS_mem (xs : List Str) (z : Str) : ∀ i, i ≤ xs.length → (z ∈ ddS xs i ↔ z ∈ xs.take i)
  | 0, _ => by simp [ddS]
  | i + 1, h => by
    have ih := ddS_mem xs z i (by omega)
    have e : xs.take (i + 1) = xs.take i ++ [xs.getD i Str.empty] := by
      rw [List.take_succ, List.getD_eq_getElem?_getD, List.getElem?_eq_getElem (by omega)]
      rfl
    rw [e, List.mem_append, List.mem_singleton]
    unfold ddS
    split
    · rename_i h2
      rw [ih]
      constructor
      · exact .inl
      · rintro (q | rfl)
        · exact q
        · exact ih.mp h2
    · rw [List.mem_cons, ih]
      exact Or.comm
section
variable {prog : Program} {w : World} {A : Around} {R : Result → Shared → Prop} {I : Addr} {fp wr : List Addr} {G : Array GenState → Array GenState → Prop} {n : Nat} {P : Nat → Value → Prop} {St : Nat → Shared → Prop}
theorem upd_loopS (W : WalksS prog w A.in1 I fp wr G n P St) (S : Addr) (hSf : S ∉ fp) (xs : List Str) (hval : ∀ i v, P i v → ∃ t, v = .str (xs.getD i Str.empty) t) (hb : n + 1 < scanBound) :
    ∀ (k i : Nat) (s : Shared), n - i = k → i ≤ n → St i s → SetS prog w s.heap S (ddS xs i) → (∀ s', Moved (S :: wr) G s s' → SetS prog w s'.heap S (ddS xs n) → R (.ok (.ret .none)) s') →
      codeAny (model prog w) A (.builtin "set.update.loop" ⟨[.ref S, .ref I], []⟩) R s := by
  have hSw : S ∉ wr := fun h => hSf (W.sub _ h)
  have hsub : ∀ b ∈ wr, b ∈ S :: wr := fun b hb => List.mem_cons_of_mem _ hb
  intro k
  induction k with
  | zero =>
    intro i s hk hi hst hS hR
    obtain rfl : i = n := by omega
    refine codeAny_builtin PyProof.Rows.F.entry_set_update_loop ?_
    rw [Around.under_plainId PyProof.Rows.F.plain_set_update_loop _]
    show wpAny _ A.in1 (pyNext (.ref I) >>= _) _ _ s
    refine wpAny_bind (W.done s _ _ hst fun s' hm => ?_)
    show wpAny _ A.in1 (ret Value.none) _ _ s'
    obtain ⟨D, hD, r⟩ := hS
    exact wpAny_pure (hR s' (hm.mono hsub) ⟨D, hm.heap S _ hSw hD, r⟩)
  | succ k ih =>
    intro i s hk hi hst hS hR
    have hlt : i < n := by omega
    refine codeAny_builtin PyProof.Rows.F.entry_set_update_loop ?_
    rw [Around.under_plainId PyProof.Rows.F.plain_set_update_loop _]
    show wpAny _ A.in1 (pyNext (.ref I) >>= _) _ _ s
    refine wpAny_bind (W.item i s _ _ hlt hst fun v s' hP hst' hm => ?_)
    obtain ⟨t, rfl⟩ := hval i v hP
    obtain ⟨D, hD, r⟩ := hS
    have hD' := hm.heap S _ hSw hD
    show wpAny _ A.in1 (holding [Value.str (xs.getD i Str.empty) t] (setAdd S (.str (xs.getD i Str.empty) t)) >>= _) _ _ s'
    refine wpAny_bind (wpAny_holding ?_)
    unfold setAdd
    refine wpAny_holding ?_
    refine wpAny_bind ((PySem.strKind prog w).pyHash (k := xs.getD i Str.empty) (is_str _ _) ?_)
    have hlen := ddS_len xs i
    by_cases hin : xs.getD i Str.empty ∈ ddS xs i
    · have e : ddS xs (i + 1) = ddS xs i := by rw [ddS, if_pos hin]
      refine has_add (s := { s' with toks := s'.toks + 1 }) (l := ddS xs i) hD' r.ok hin (by omega) ?_
      refine wpAny_pure ⟨plainId_quiet PyProof.Rows.F.plain_set_update_loop _, ih (i + 1) _ (by omega) hlt (W.frame _ s' _ _ hst' (Nat.le_succ _) fun b hb o e => e) (by rw [e]; exact ⟨D, hD', r⟩) fun s'' hm'' hS'' => ?_⟩
      exact hR s'' (Moved.trans W.gtrans ((hm.mono hsub).then_heap (Nat.le_succ _) fun b o hb e => e) hm'') hS''
    · have e : ddS xs (i + 1) = xs.getD i Str.empty :: ddS xs i := by rw [ddS, if_neg hin]
      refine add_x (s := { s' with toks := s'.toks + 1 }) (l := ddS xs i) hD' r.ok hin (by omega) ?_
      have hsb : ∀ b, b ≠ S → ∀ o, s'.heap.get? b = some o → (s'.heap.update S (fun _ => sObj "set" (addTx (hashStr w (xs.getD i Str.empty)) (.str (xs.getD i Str.empty) t) D))).get? b = some o := fun b hb o e => PySem.Heap.get?_update_of_ne _ (Ne.symm hb) e
      refine wpAny_pure ⟨plainId_quiet PyProof.Rows.F.plain_set_update_loop _, ih (i + 1) _ (by omega) hlt (W.frame _ s' _ _ hst' (Nat.le_succ _) fun b hb o e => hsb b (fun h => hSf (h ▸ hb)) o e) (by rw [e]; exact ⟨_, get_upd _ hD' rfl, r.add _ t⟩) fun s'' hm'' hS'' => ?_⟩
      refine hR s'' (Moved.trans W.gtrans ((hm.mono hsub).then_heap (Nat.le_succ _) fun b o hb e => hsb b (fun h => hb (by rw [h]; exact List.mem_cons_self)) o e) hm'') hS''
end
section
variable {prog : Program} {w : World} {A : Around} {E : Value → Shared → Prop} {s : Shared}
/-- a set that is made, empty: its table -/
abbrev freshS (w : World) : Obj := { cls := .type "set", dict := none, data := .set #[] 0 (.fresh 0 0 (!w.params.followText "set-order")) }
theorem newS (a : Value) {Q₁ : Value → Shared → Prop} (h : Q₁ (.ref s.heap.objs.size) { s with heap := s.heap.push (freshS w) }) :
    codeAny (model prog w) A (.call (.builtin "set.__new__") ⟨[.type "set", a], []⟩) (wants Q₁ E) s := by
  refine codeAny_of_tree ?_
  show wpAny _ A.in1 (do checkBuiltinCall "set.__new__" ⟨[.type "set", a], []⟩; again (.builtin "set.__new__" ⟨[.type "set", a], []⟩)) _ _ s
  refine wpAny_bind (wpAny_of_eq (PySem.F.newCall_set_1 a) (wpAny_pure ⟨plainId_quiet PySem.F.plain_set_new _, codeAny_builtin PySem.F.entry_set_new ?_⟩))
  rw [Around.under_plainId PySem.F.plain_set_new _]
  unfold Builtin.«set.__new__» Builtin.Frozenset.newClass
  have hsub := PySem.sub_set_self
  obtain ⟨hp, g, d, tk, os⟩ := s
  dsimp only
  wp_walk
  refine wpAny_askSetting (wpAny_pure ?_)
  dsimp only
  simp only [newObj]
  refine wpAny_bind (wpAny_alloc (wpAny_pure ?_))
  exact wpAny_pure h
theorem setS_fresh {h : Heap} : SetS prog w (h.push (freshS w)) h.objs.size [] :=
  ⟨(#[], 0, .fresh 0 0 (!w.params.followText "set-order")), Heap.get?_push_size _ rfl, TxOk.nil rfl, List.Perm.refl _, List.Pairwise.nil, by
    show _ ∨ (!w.params.followText "set-order") = true
    cases w.params.followText "set-order"
    · exact .inr rfl
    · exact .inl rfl⟩
theorem SetS.at {h h' : Heap} {a : Addr} {l : List Str} (x : SetS prog w h a l) (k : ∀ o, h.get? a = some o → h'.get? a = some o) : SetS prog w h' a l := let ⟨D, e, r⟩ := x; ⟨D, k _ e, r⟩
set_option maxHeartbeats 3200000 in
theorem call_setS {l : Addr} {items : Array Value} {xs : List Str} {Q : Value → Shared → Prop} (hh : A.handled = none) (hl : s.heap.IsList l items) (hi : PyProof.Rows.StrsAre items.toList xs) (hb : items.size + 1 < scanBound)
    (h : ∀ (h' : Heap) (tk : Nat), SetS prog w h' s.heap.objs.size (ddS xs items.size) → (∀ b o, b < s.heap.objs.size → s.heap.get? b = some o → h'.get? b = some o) → Q (.ref s.heap.objs.size) { s with heap := h', toks := tk }) :
    wpAny (model prog w) A (call (.type "set") [.ref l]) Q E s := by
  obtain ⟨c, tl, hmro⟩ := PySem.F.called_set.mro
  have hmade := PySem.F.called_set.made
  have hsub := PySem.F.called_set.sub
  refine wpAny_call (codeAny_of_tree ?_)
  show wpAny _ _ (callAny (.type "set") _) _ _ _
  refine wpAny_pure ⟨Code.quiet_builtin _ (by decide +kernel), codeAny_builtin PySem.F.entry_type_call ?_⟩
  rw [Around.under_plain (weight_type_call_type "set" [.ref l] []) rfl]
  have h1 := PySem.F.called_set.notType
  have h2 := PySem.F.called_set.canCreate
  have hct := PySem.F.typeCall_set_1 (.ref l)
  repeat (any_goals (first | assumption | wp_step))
  refine codeAny_mono (newS (.ref l) (E := E) (Q₁ := fun obj s₁ => obj = .ref s.heap.objs.size ∧ s₁ = { s with heap := s.heap.push (freshS w) }) ⟨rfl, rfl⟩) fun r s₁ hr => ?_
  cases r with
  | error e => exact hr
  | ok fl =>
    cases fl with
    | ret obj =>
      obtain ⟨rfl, rfl⟩ := hr
      have hS : (s.heap.push (freshS w)).get? s.heap.objs.size = some (freshS w) := Heap.get?_push_size _ rfl
      have hT : Shared.TypeIs { s with heap := s.heap.push (freshS w) } (.ref s.heap.objs.size) "set" := ⟨_, hS, rfl⟩
      have hli := PySem.F.called_set.init.lookup
      have hbi := PySem.F.called_set.init.bind (.ref s.heap.objs.size)
      repeat (any_goals (first | assumption | wp_step))
      refine codeAny_mono (codeAny_call_builtin (R := wants (fun r s₂ => r = .none ∧ ∃ h' tk, s₂ = { s with heap := h', toks := tk } ∧ SetS prog w h' s.heap.objs.size (ddS xs items.size) ∧
          (∀ b o, b < s.heap.objs.size → s.heap.get? b = some o → h'.get? b = some o)) E) PySem.F.called_set.init.plain PySem.F.entry_set_init (check_set_init_1 hT ?_)) fun r₂ s₂ hr₂ => ?_
      · obtain ⟨ol, hol, hcl, nl, hdl⟩ := hl
        obtain ⟨ocls, odict, odata, oslots⟩ := ol
        simp only at hcl hdl
        subst hcl; subst hdl
        have hol' : (s.heap.push (freshS w)).get? l = some { cls := .type "list", dict := odict, data := .seq items nl, slots := oslots } := Heap.get?_push_of_some _ hol
        have hsls := PySem.F.sub_list_set
        have hslf := PySem.F.sub_list_frozenset
        have hne : (Value.type "list" == Value.type "dict") = false := by decide
        have hl1 : (s.heap.push (freshS w)).IsList l items := ⟨_, hol', rfl, nl, rfl⟩
        unfold Builtin.«set.__init__» noKeywords Builtin.Frozenset.updateFrom
        generalize hPI : pyIter = PI
        wp_walk
        subst hPI
        refine wpAny_pyIter_list hl1 ?_
        refine wpAny_bind (wpAny_runValue ?_)
        have hlS : l < s.heap.objs.size := Heap.lt_size hol
        have hh3 : A.in1.in1.in1.handled = none := by simp [hh]
        have hneI : l ≠ (s.heap.push (freshS w)).objs.size := by
          rw [Heap.size_push]; exact Nat.ne_of_lt (Nat.lt_succ_of_lt hlS)
        have hSf : s.heap.objs.size ∉ [(s.heap.push (freshS w)).objs.size, l] := by
          rw [Heap.size_push]; simp only [List.mem_cons, List.mem_singleton, List.not_mem_nil, or_false, not_or]
          exact ⟨Nat.ne_of_lt (Nat.lt_succ_self _), Nat.ne_of_gt hlS⟩
        have hval : ∀ (i : Nat) (v : Value), items[i]? = some v → ∃ t, v = .str (xs.getD i Str.empty) t := fun i v hv => SS.strs_at hi i v (by rw [Array.getElem?_toList]; exact hv)
        refine upd_loopS ((Walks.list hh3 _ l hneI items).toS) s.heap.objs.size hSf xs hval hb (items.size - 0) 0 _ (by omega) (Nat.zero_le _) ⟨⟨_, Heap.get?_push_size _ rfl, rfl, rfl⟩, (hl1.push _)⟩ ?hS0 ?hR
        case hS0 => exact setS_fresh.at fun o e => Heap.get?_push_of_some _ e
        case hR =>
          intro s' hm hS'
          obtain ⟨h', g', d', tk', os'⟩ := s'
          have eg : g' = s.gens := hm.gens
          have ed : d' = s.drawn := hm.drawn
          have eo : os' = s.os := hm.os
          subst eg; subst ed; subst eo
          show wpAny _ _ _ _ _ _
          refine wpAny_pure ?_
          show wpAny _ _ (ret Value.none) _ _ _
          refine wpAny_pure ⟨rfl, h', tk', rfl, hS', fun b o hb e => ?_⟩
          have hb1 : b ≠ s.heap.objs.size := Nat.ne_of_lt hb
          have hb2 : b ≠ (s.heap.push (freshS w)).objs.size := by
            rw [Heap.size_push]; exact Nat.ne_of_lt (Nat.lt_succ_of_lt hb)
          exact hm.heap b o (by simp only [List.mem_cons, List.mem_singleton, List.not_mem_nil, or_false, not_or]; exact ⟨hb1, hb2⟩) (Heap.get?_push_of_some _ (Heap.get?_push_of_some _ e))
      · cases r₂ with
        | error e => exact hr₂
        | ok fl₂ =>
          cases fl₂ with
          | ret r =>
            obtain ⟨rfl, h', tk, rfl, hS', hk'⟩ := hr₂
            repeat (any_goals (first | assumption | wp_step))
            exact h _ _ hS' hk'
          | _ => exact hr₂.elim
    | _ => exact hr.elim
end
section
variable {X : Cx}
def SetTO (P : Program) (w : World) (a : Addr) (l : List Str) : HO := .ext fun h => SetS P w h a l
theorem setT_new {w : World} {P : Program} {H : Hp} {h : Heap} {a : Addr} {l : List Str} (R : SetS P w h a l) : ObjOk P w H h a (SetTO P w a l) := ⟨R, ⟨_, R.choose_spec.1⟩, fun h1 h2 p k => SetS.at p k⟩
theorem setT_get {pins : List (Addr × Obj)} {σ : L2.St} {H : Hp} {s : Shared} {a : Addr} {l : List Str} (I : Inv X pins σ H s) (ha : H a = some (SetTO X.prog X.w a l)) : SetS X.prog X.w s.heap a l := (I.hok a _ ha).1
/-- set(l) of a list of texts -/
theorem call_set_txt (hc : X.calm = true) : CallR X (.type "set") (fun vs H Q => ∃ (a : Addr) (xs : List Str), vs = [V.ref a] ∧ SqL X.K H a (xs.map V.str) ∧ xs.length ≤ 1000 ∧
    ∀ p l, l.Nodup → (∀ z, z ∈ l ↔ z ∈ xs) → H p = none → Q (.ref p) (upd H p (SetTO X.prog X.w p l))) := by
  intro pins s σ H vs us Q I r h
  obtain ⟨a, xs, rfl, hs, h1000, q⟩ := h
  obtain ⟨its, rv, hl, hz⟩ := I.list hs
  rw [Vals.ref1 r]
  have hal : its.length = xs.length := by rw [← rv.length, List.length_map]
  refine call_setS (items := its.toArray) (I.ok.hd hc) hl.isList (by simpa using rv.strs) (by rw [List.size_toArray, hal]; unfold scanBound; omega) fun h' tk hS hk => ?_
  have hn : H s.heap.objs.size = none := I.hok.fresh (Nat.le_refl _)
  refine ⟨.ref s.heap.objs.size, _, I.laid (t' := tk) (fun b o e => hk b o (Heap.lt_size e) e) (Nat.le_refl _) (setT_new hS), rfl, q _ _ (ddS_nd _ _) (fun z => ?_) hn⟩
  rw [List.size_toArray, hal, ddS_mem xs z xs.length (Nat.le_refl _), List.take_length]
theorem strs_out {es : Array (Int × Value)} {l : List Str} {D : SD} (h : TxOk X.prog X.w D l) : ∀ {out : List Value}, out.Perm (D.1.toList.map (·.2)) → StrsAre out (out.map fun v => strOf (0, v)) := fun {out} hp => by
  have all : ∀ v ∈ out, ∃ z t, v = Value.str z t := fun v hv => by
    obtain ⟨e, he, rfl⟩ := List.mem_map.mp (hp.mem_iff.mp hv)
    obtain ⟨⟨k, hk, _⟩, _⟩ := h.el e he
    have hk : Value.isStrOf k e.2 = true := hk
    cases hv : e.2 <;> rw [hv] at hk <;> first | exact ⟨_, _, rfl⟩ | cases hk
  clear hp
  induction out with
  | nil => exact .nil
  | cons v vs ih =>
    obtain ⟨z, t, rfl⟩ := all v (List.mem_cons_self ..)
    exact .cons z t (ih fun u hu => all u (List.mem_cons_of_mem _ hu))
/-- sorted(s) of a set of texts -/
theorem cr_sortedSetT (hc : X.calm = true) : CallR X (.builtin "sorted") (fun vs H Q => ∃ (a : Addr) (l : List Str), vs = [V.ref a] ∧ H a = some (SetTO X.prog X.w a l) ∧ l.length < 64 ∧
    ∀ (ys : List Str) (p : Addr), ys.Perm l → sortedS ys = true → H p = none → Q (.ref p) (upd H p (.lst (ys.map V.str)))) := by
  intro pins s σ H vs us Q I r h
  obtain ⟨a, l, rfl, ha, h64, q⟩ := h
  obtain ⟨D, hD, hok, hpm, hris, hled⟩ := setT_get I ha
  rw [Vals.ref1 r]
  have hsz : D.1.size = l.length := hok.sz
  refine Calls.call_function_entry PyProof.Rows.kind_sorted PyProof.Rows.plain_sorted PyProof.Rows.entry_sorted (PyProof.Rows.args_sorted1 _) ?_
  unfold Builtin.«sorted»
  refine wpAny_bind (m := checkCount "sorted" 1 1 _) (wpAny_pure ?_)
  refine wpAny_bind (collect_set (A := X.A.in1) (I.ok.hd hc) ⟨_, hD, rfl, rfl⟩ hok.fit (by rw [hsz]; exact Nat.lt_trans h64 (by decide)) hris hled fun s1 its k1 hz g1 o1 pm => ?_)
  have hal : its.length = l.length := by rw [pm.length_eq, List.length_map, Array.length_toList]; exact hsz
  have hS := strs_out (X := X) (es := D.1) hok pm
  have pl : (its.map fun v => strOf (0, v)).Perm l := by
    have q1 := pm.map fun v => strOf (0, v)
    rw [List.map_map] at q1
    exact q1.trans hpm
  refine wpAny_bind (wpAny_newList ?_ (by rw [hal, sizeLine_eq]; omega))
  have hoL : (s1.heap.push (seqObj "list" its.toArray 0)).get? s1.heap.objs.size = some (seqObj "list" its.toArray 0) := Heap.get?_push_size _ rfl
  refine wpAny_bind (wpAny_holding (wpAny_call_entry PyProof.Rows.slot_list_sort ⟨_, hoL, rfl⟩ PyProof.Rows.entry_list_sort
    (list_sort_treeK strKind_oneLt (s := { s1 with heap := s1.heap.push (seqObj "list" its.toArray 0) }) hoL hS.keysOf (fun v₁ v₂ rest e => keyKind_strs (by rw [← e]; exact hS)) (by rw [hal]; exact h64) fun st' hp hs => ⟨_, rfl, ?_⟩)
    (PyProof.Rows.args_list_sort _)))
  obtain ⟨ys, y1, y2, y3⟩ := sorted_out_str hS hp hs
  obtain ⟨e', he'⟩ := PyProof.Rows.sortedHeap_at (vs := its) (out := (arrOf st').map (·.2)) hoL
  have py : ys.Perm l := y2.trans pl
  have hlen : (ys.map V.str).length ≤ sizeLine := by
    rw [List.length_map, py.length_eq]
    exact Nat.le_trans (Nat.le_of_lt h64) (by decide)
  have hn : H s1.heap.objs.size = none := I.hok.fresh hz
  have hk : ∀ b o, s.heap.get? b = some o → (PyProof.Rows.sortedHeap (s1.heap.push (seqObj "list" its.toArray 0)) s1.heap.objs.size its ((arrOf st').map (·.2))).get? b = some o := fun b u e => by
    have e1 := k1 b u e
    have hb : b < s1.heap.objs.size := Heap.lt_size e1
    rw [PyProof.Rows.sortedHeap_old (Nat.ne_of_lt hb) (by rw [size_push']; exact Nat.lt_succ_of_lt hb)]
    exact Heap.get?_push_of_some _ e1
  have J : Inv X pins σ (upd H s1.heap.objs.size (.lst (ys.map V.str))) { s with heap := PyProof.Rows.sortedHeap (s1.heap.push (seqObj "list" its.toArray 0)) s1.heap.objs.size its ((arrOf st').map (·.2)), gens := s1.gens, drawn := s1.drawn, toks := s1.toks } :=
    I.call (ch := []) (Un.laid hk hz hn) (I.hok.laid hk hz ⟨hlen, ((arrOf st').map (·.2)).toList, e', vals_of_strs y1, by rw [Array.toArray_toList]; exact he'⟩) (by rw [g1]; exact I.bare) (fun _ z => nomatch z)
  have e : ({ s1 with heap := PyProof.Rows.sortedHeap (s1.heap.push (seqObj "list" its.toArray 0)) s1.heap.objs.size its ((arrOf st').map (·.2)) } : Shared) = { s with heap := PyProof.Rows.sortedHeap (s1.heap.push (seqObj "list" its.toArray 0)) s1.heap.objs.size its ((arrOf st').map (·.2)), gens := s1.gens, drawn := s1.drawn, toks := s1.toks } := by
    cases s1
    cases s
    cases o1
    rfl
  refine wpAny_pure ⟨_, rfl, ?_⟩
  rw [e]
  exact ⟨.ref s1.heap.objs.size, _, J, rfl, q ys _ py y3 hn⟩
end
end Ts

set_option maxRecDepth 100000
set_option maxHeartbeats 8000000
namespace Ts
open PySem L2
/-! ### what is read where things are compared -/
def hiD : Option Int → PyData
  | none => .none
  | some k => .int k
theorem rd_neRg {K : PySem.W.Frag} {H : Hp} {a b : Addr} {g : Rg} {Q : VK} (h1 : SqT K H a (rgV g)) (h2 : SqT K H b (rgV g)) (k : Q (.bl false) H) : rNeD K (.ref a) (.ref b) H Q := by
  have dp : DpAll K H (rgV g) [.int g.lo, hiD g.hi] := .cons (.int _) (.cons (by cases g.hi with | none => exact .non | some k => exact .int k) .nil)
  have sh : SeqAt.shaped (.tuple [.int g.lo, hiD g.hi]) = true := by
    unfold SeqAt.shaped
    cases g.hi <;> simp [hiD, PyData.canLay0, PyData.canLayAll0, PyData.depth, PyData.depthAll]
  refine ⟨_, _, .tup h1 dp, .tup h2 dp, sh, sh, ?_⟩
  have e : PyData.eqv (.tuple [.int g.lo, hiD g.hi]) (.tuple [.int g.lo, hiD g.hi]) = true := by
    cases g.hi <;> simp [hiD, PyData.eqv, PyData.eqvAll]
  rw [e]
  exact k
theorem strs_shp {l : List Str} (h : ∀ x ∈ l, PyData.strOk x = true) : SeqAt.shaped (.list (l.map PyData.str)) = true := by
  unfold SeqAt.shaped
  rw [Bool.and_eq_true]
  refine ⟨by simp only [PyData.canLay0]; exact strs_lay l h, decide_eq_true ?_⟩
  simp only [PyData.depth, strs_depth]
  omega
theorem rd_eqNil {K : PySem.W.Frag} {H : Hp} {p q : Addr} {l : List Str} {Q : VK} (h1 : H p = some (.lst (l.map V.str))) (ok : ∀ x ∈ l, PyData.strOk x = true) (h2 : H q = some (.lst [])) (k : Q (.bl (decide (l = []))) H) : rEqD K (.ref p) (.ref q) H Q := by
  refine ⟨_, .list [], strs_dp h1, .lst (SqL.of h2) .nil, strs_shp ok, nil_shaped, ?_⟩
  cases l with
  | nil => simpa [PyData.eqv, PyData.eqvAll] using k
  | cons a b => simpa [PyData.eqv, PyData.eqvAll] using k
theorem rd_neLL {K : PySem.W.Frag} {H : Hp} {p q a b c d : Addr} {X Y : List Str} {Q : VK} (h1 : H p = some (.lst [V.ref a, V.ref b])) (h2 : H q = some (.lst [V.ref c, V.ref d])) (ha : H a = some (.lst (X.map V.str))) (hb : H b = some (.lst (Y.map V.str))) (hc : H c = some (.lst (X.map V.str))) (hd : H d = some (.lst (Y.map V.str)))
    (okX : ∀ x ∈ X, PyData.strOk x = true) (okY : ∀ x ∈ Y, PyData.strOk x = true) (k : Q (.bl false) H) : rNeD K (.ref p) (.ref q) H Q := by
  have sh : SeqAt.shaped (.list [.list (X.map PyData.str), .list (Y.map PyData.str)]) = true := by
    unfold SeqAt.shaped
    rw [Bool.and_eq_true]
    refine ⟨by simp [PyData.canLay0, PyData.canLayAll0, strs_lay X okX, strs_lay Y okY], decide_eq_true ?_⟩
    simp [PyData.depth, PyData.depthAll, strs_depth]
  refine ⟨_, _, .lst (SqL.of h1) (.cons (strs_dp ha) (.cons (strs_dp hb) .nil)), .lst (SqL.of h2) (.cons (strs_dp hc) (.cons (strs_dp hd) .nil)), sh, sh, ?_⟩
  have e : PyData.eqv (.list [.list (X.map PyData.str), .list (Y.map PyData.str)]) (.list [.list (X.map PyData.str), .list (Y.map PyData.str)]) = true := by
    simp [PyData.eqv, PyData.eqvAll, strs_eqv]
  rw [e]
  exact k
theorem call_set_txt' {X : Cx} (hc : X.calm = true) : CallR X (.type "set") (fun vs H Q => ∃ (a : Addr) (xs : List Str), vs = [V.ref a] ∧ SqL X.K H a (xs.map V.str) ∧ xs.length ≤ 1000 ∧
    ∀ p l H', l.Nodup → (∀ z, z ∈ l ↔ z ∈ xs) → H p = none → Same H H' → H' p = some (SetTO X.prog X.w p l) → Q (.ref p) H') := by
  intro pins s σ H vs us Q I r h
  obtain ⟨a, xs, e, hs, hl, q⟩ := h
  exact call_set_txt hc pins s σ H vs us Q I r ⟨a, xs, e, hs, hl, fun p l h1 h2 h3 => q p l _ h1 h2 h3 (Same.new h3) upd_same⟩
theorem nums_shut {rs : List Row} (hv : Valid rs) {L : List Str} {g : Str → Rg} (hsh : (shutL rs).length ≤ 4) {z : Str} (i : Nat) : (allF (pairR rs L g) ((heldL rs z).take i)).length ≤ 100 := by
  have key : ∀ i, i ≤ (heldL rs z).length → (allF (pairR rs L g) ((heldL rs z).take i)).length ≤ 100 := fun i hi => by
    refine Nat.le_trans (allF_len (pairR rs L g) (heldL rs z) i hi) ?_
    have h1 : (((heldL rs z).take i).filter fun y => decide (1 < (numsR (pairR rs L g y)).length)).length ≤ 4 := by
      refine Nat.le_trans ?_ hsh
      have h2 : (((heldL rs z).take i).filter fun y => decide (1 < (numsR (pairR rs L g y)).length)).Sublist ((heldL rs z).filter fun y => decide (1 < (numsR (pairR rs L g y)).length)) := List.Sublist.filter _ (List.take_sublist _ _)
      refine Nat.le_trans h2.length_le ?_
      unfold heldL shutL
      rw [List.filter_map, List.length_map, List.length_map, List.filter_filter, ← List.countP_eq_length_filter, ← List.countP_eq_length_filter]
      refine List.countP_mono_left fun r hr hp => ?_
      obtain ⟨hp1, hp2⟩ := Bool.and_eq_true_iff.mp hp
      have hc : 1 < (numsR (pairR rs L g r.nm)).length := by first | exact of_decide_eq_true hp1 | exact of_decide_eq_true hp2
      by_cases k1 : r.ki = ("shut" : Str)
      · exact decide_eq_true k1
      · have e : pairR rs L g r.nm = if r.ki = ("item" : Str) then oneI else noI := by
          unfold pairR
          rw [names_inj2 hv hr]
          show (if r.ki = ("shut" : Str) then _ else _) = _
          rw [if_neg k1]
        rw [e] at hc
        by_cases k2 : r.ki = ("item" : Str)
        · rw [if_pos k2] at hc
          exact absurd hc (by decide +kernel)
        · rw [if_neg k2] at hc
          exact absurd hc (by decide +kernel)
    exact Nat.le_trans (Nat.pow_le_pow_right (by decide) h1) (by decide)
  by_cases h : i ≤ (heldL rs z).length
  · exact key i h
  · have e : (heldL rs z).take i = (heldL rs z).take (heldL rs z).length := by rw [List.take_of_length_le (by omega), List.take_length]
    rw [e]
    exact key _ (Nat.le_refl _)
abbrev pBx : List Str := ["_law_counts", "_law_meaning_here", "_law_rows_here", "_law_ranges", "_law_box"]
abbrev nBx : List Str := ["_law_counts", "_law_meaning_here", "_law_rows_here", "_law_ranges", "_law_box", "_law_values", "_law_held_here", "_law_shut", "_law_some_here", "_law_due", "_law_asked", "_law_again", "_law_found", "_law_told", "_law_row", "_law_numbers_here", "_law_name_here"]
def spBoxR (K : PySem.W.Frag) (C CM CC : Addr) : Sp := fun vs H Q _ => ∃ (c m p d : Addr) (z : Str) (rs : List Row) (L : List Str) (g : Str → Rg) (v : Str → Bool), vs = [.ref c, .ref m, .ref p, .ref d, .str z] ∧ CMZ K C CM CC H c m rs (pairR rs L g) v ∧ RowsL H p rs ∧ rs.length ≤ 13 ∧ (shutL rs).length ≤ 4 ∧ RgsT H d L g ∧ (∀ z ∈ L, (g z).ok) ∧ z ∈ plc rs ∧
  ∀ H', Same H H' → Q (.bl true) H'
section
variable {P : Program} {w : World} {K : PySem.W.Frag} {mg : Str → Option Value} {base : Heap} {C CM CC CL CS : Addr}
theorem sc_Bx : FnScope nBx pBx (defScope s_L_box_right) := ⟨rfl, rfl, rfl, by decide +kernel, rfl, by decide +kernel, by decide +kernel⟩
theorem ok_Lbox (D : DefAt K mg "_law_box_right" s_L_box_right pBx) (B : TxB mg) (hSo : mg "sorted" = none) (hSet : mg "set" = none) (M : TxM K mg CM) (TK : TxK K mg CC)
    (mS : MethAt K CM "states" "Meaning.states" s_Meaning_states ["self"]) (GS : FnOk P w K mg base CX0 2 mS.f mS.fd ["self"] (spMStates C CM))
    (Dh : DefAt K mg "_law_held" s_L_held pLH) (Gh : FnOk P w K mg base CX0 5 Dh.f Dh.fd pLH (spLHeld K))
    (Dt : DefAt K mg "_law_total" s_L_total pLT) (Gt : FnOk P w K mg base CX0 1 Dt.f Dt.fd pLT (spLTotal K))
    (Da : DefAt K mg "_law_all_numbers" s_L_all_numbers ["_law_ranges"]) (Ga : FnOk P w K mg base CX0 2 Da.f Da.fd ["_law_ranges"] (spAllN K))
    (Ds : DefAt K mg "_law_side_shows" s_L_side_shows pSd) (Gs : FnOk P w K mg base CX0 2 Ds.f Ds.fd pSd spSideN)
    (Dg : DefAt K mg "_law_hangs" s_L_hangs pHg) (Gg : FnOk P w K mg base CX0 3 Dg.f Dg.fd pHg (spHang K))
    (mOn : MethAt K CC "on" "Counts.on" s_Counts_on ["self", "meaning", "box"]) (GOn : FnOk P w K mg base CX0 7 mOn.f mOn.fd ["self", "meaning", "box"] (spSide K C CM CC true))
    (mOf : MethAt K CC "off" "Counts.off" s_Counts_off ["self", "meaning", "box"]) (GOf : FnOk P w K mg base CX0 7 mOf.f mOf.fd ["self", "meaning", "box"] (spSide K C CM CC false))
    (mSh : MethAt K CC "shows" "Counts.shows" s_Counts_shows ["self", "meaning", "box"]) (GSh : FnOk P w K mg base CX0 8 mSh.f mSh.fd ["self", "meaning", "box"] (spShows K C CM CC))
    (mAs : MethAt K CC "asks" "Counts.asks" s_Counts_asks ["self", "meaning", "box"]) (GAs : FnOk P w K mg base CX0 8 mAs.f mAs.fd ["self", "meaning", "box"] (spAsks K C CM CC)) :
    FnOk P w K mg base CX0 9 D.f D.fd pBx (spBoxR K C CM CC) := by
  refine D.F.ok sc_Bx (fun vs H Q E h => ?_) (fun cdv A outer s H vs Q E hr h => ?_)
  · obtain ⟨c, m, p, d, z, rs, L, g, v, rfl, _⟩ := h
    rfl
  · obtain ⟨c, m, p, d, z, rs, L, g, v, rfl, hcm, hL, hl13, hsh, hRg, hgok, hz, hq⟩ := h
    have hu := hu_of hr
    have h64 := hr.units
    have r1 : Room 1 _ := hr.mono (by decide)
    have r2 : Room 2 _ := hr.mono (by decide)
    have r3 : Room 3 _ := hr.mono (by decide)
    have r5 : Room 5 _ := hr.mono (by decide)
    have r7 : Room 7 _ := hr.mono (by decide)
    refine ⟨_, pss_cons (ps_asg (pe_tup (pa_cons (pe_meth0 (pv 1) M.cl mS.m GS r2 mS.b .nil pass0) (pa_cons (pe_call Gh r5 rfl Dh.g Dh.F.kp Dh.b .nil pass0 (pa_cons (pv 2) (pa_cons (pv 3) (pa_cons (pv 4) pa_nil)))) pa_nil))) (pg_tup rfl (pgs_cons (pg_name (i := 5) sc_Bx.nd rfl (.inr rfl)) (pgs_cons (pg_name (i := 6) sc_Bx.nd rfl (.inr rfl)) pgs_nil))))
      (pss_cons (ps_setLc (i := 7) (own := [("_law_row", 14)]) (g := gName 14) (tt := tAnd (tB (tDIn (tOp (rIxT K) (tVar 14) (tC (.int 0))) (tVar 6))) (tTest (tOp rEq (tOp (rIxT K) (tVar 14) (tC (.int 2))) (tC (.str ("shut" : Str)))))) (te := tOp (rIxT K) (tVar 14) (tC (.int 0))) rfl sc_Bx.nd rfl rfl (sw_true rfl rfl rfl (by decide +kernel)) (pi_list (pv 2)) (blkOk_by (N := nBx) (sc := defScope s_L_box_right) (by decide +kernel))
          (fun _ _ _ _ _ => pg_name (i := 14) sc_Bx.nd rfl (Or.inl rfl)) (fun _ _ _ _ _ => by exact pts_one (PW.pt (pw_and (pt_cmp (pc_din hu (pe_ix ix_tup (pv 14) pe_int (fun _ _ => rfl)) (pv 6))) (pw_and1 (pt_cmpR op_eq (pe_ix ix_tup (pv 14) pe_int (fun _ _ => rfl)) pe_str (nomark _)))))) (fun _ _ _ _ _ => by exact pe_ix ix_tup (pv 14) pe_int (fun _ _ => rfl)))
      (pss_cons (ps_if (pt_cmpR (op_neD h64) (pe_meth (pv 0) TK.cl mOn.m GOn r7 mOn.b .nil pass0 (pa_cons (pv 1) (pa_cons (pv 4) pa_nil))) (pe_call Gt r1 rfl Dt.g Dt.F.kp Dt.b .nil pass0 (pa_cons (pv 6) (pa_cons (pv 5) (pa_cons pe_bl pa_nil)))) (nomark _)) (pss_one (ps_ret pe_bl)) pss_nil)
      (pss_cons (ps_if (pt_cmpR (op_neD h64) (pe_meth (pv 0) TK.cl mOf.m GOf r7 mOf.b .nil pass0 (pa_cons (pv 1) (pa_cons (pv 4) pa_nil))) (pe_call Gt r1 rfl Dt.g Dt.F.kp Dt.b .nil pass0 (pa_cons (pv 6) (pa_cons (pv 5) (pa_cons pe_bl pa_nil)))) (nomark _)) (pss_one (ps_ret pe_bl)) pss_nil)
      (pss_cons (ps_set (i := 8) sc_Bx.nd rfl (.inr rfl) (pe_call Ga r2 rfl Da.g Da.F.kp Da.b .nil pass0 (pa_cons (pv 6) pa_nil)))
      (pss_cons (ps_set (i := 9) sc_Bx.nd rfl (.inl rfl) (pe_callB (cr_sortedSetT rfl) (by rfl) hSo (by decide +kernel) (pa_cons (pe_callTy (T := "set") (call_set_txt' rfl) (by rfl) hSet (by decide +kernel) (pa_cons (pe_lc (own := [("_law_numbers_here", 15)]) (g := gName 15) (tt := tYes) (te := tCall spSideN [] E0 (tCons (tVar 15) (tCons (tVar 5) tNil))) rfl sc_Bx.nd (pi_list (pv 8)) (blkOk_by (N := nBx) (sc := defScope s_L_box_right) (by decide +kernel))
          (fun _ _ _ _ _ => pg_name (i := 15) sc_Bx.nd rfl (Or.inl rfl)) (fun _ _ _ _ _ => pts_nil) (fun _ _ _ _ _ => by exact pe_call Gs r2 rfl Ds.g Ds.F.kp Ds.b .nil pass0 (pa_cons (pv 15) (pa_cons (pv 5) pa_nil)))) pa_nil)) pa_nil)))
      (pss_cons (ps_setLc (i := 10) (own := [("_law_name_here", 16)]) (g := gName 16) (tt := tB (tCall (spHang K) [] E0 (tCons (tVar 16) (tCons (tVar 6) (tCons (tVar 8) (tCons (tVar 5) tNil)))))) (te := tVar 16) rfl sc_Bx.nd rfl rfl (sw_true rfl rfl rfl (by decide +kernel)) (pi_list (pv 7)) (blkOk_by (N := nBx) (sc := defScope s_L_box_right) (by decide +kernel))
          (fun _ _ _ _ _ => pg_name (i := 16) sc_Bx.nd rfl (Or.inl rfl)) (fun _ _ _ _ _ => by exact pts_one (pt_val (pe_call Gg r3 rfl Dg.g Dg.F.kp Dg.b .nil pass0 (pa_cons (pv 16) (pa_cons (pv 6) (pa_cons (pv 8) (pa_cons (pv 5) pa_nil))))))) (fun _ _ _ _ _ => pv 16))
      (pss_cons (ps_for PassesOwn.never rfl (pi_range1 (by rfl) B.range (pa_cons pe_int pa_nil)) (pg_name (i := 11) sc_Bx.nd rfl (.inl rfl))
        (pss_cons (ps_set (i := 12) sc_Bx.nd rfl (.inl rfl) (pe_lst (pa_cons (pe_meth (pv 0) TK.cl mSh.m GSh hr mSh.b .nil pass0 (pa_cons (pv 1) (pa_cons (pv 4) pa_nil))) (pa_cons (pe_meth (pv 0) TK.cl mAs.m GAs hr mAs.b .nil pass0 (pa_cons (pv 1) (pa_cons (pv 4) pa_nil))) pa_nil))))
        (pss_cons (ps_if (PW.pt (pw_or (pt_cmpR (op_neD h64) (pv 12) (pe_lst (pa_cons (pv 9) (pa_cons (pv 10) pa_nil))) (nomark _)) (pw_or1 (pt_cmpR op_ne (pe_cmpR op_eq (pe_callB call_len_seq (by rfl) B.len PySem.boot_len (pa_cons (pv 9) pa_nil)) pe_int (nomark _)) (pe_cmpR (op_eqD h64) (pv 10) (pe_lst pa_nil) (nomark _)) (nomark _))))) (pss_one (ps_ret pe_bl)) pss_nil)
        (pss_one (ps_for PassesOwn.never rfl (pi_list (pv 12)) (pg_name (i := 13) sc_Bx.nd rfl (.inl rfl))
          (pss_one (ps_expr (pe_bm PySem.F.plainAttrs_list PySem.F.slot_list_append PySem.F.type_list_append mt_append (pv 13) (pa_cons pe_str pa_nil)))))))))
      (pss_one (ps_ret pe_bl))))))))), ?_⟩
    obtain ⟨t, t2, hc, hm⟩ := id hcm.ex
    obtain ⟨cdx, ck, c1, _⟩ := id hc.ex
    obtain ⟨mdx, mu, mk, m1, _⟩ := id hm.turns.ex
    obtain ⟨as, hp, hrows⟩ := id hL.ex
    have hv := hc.tree.val
    have noN : ∀ {n : Str}, n ≠ ("tree" : Str) → n ≠ ("pairs" : Str) → (cf t ck).lookup n = none := fun {n} a b => by
      unfold cf
      rw [lookup_putF, if_neg b, lookup_putF, if_neg a]
      rfl
    have noS : (mf t2 mu mk (v "top")).lookup ("states" : Str) = none := mf_no _ _ _ _ (by decide +kernel) (by decide +kernel) (by decide +kernel) (by decide +kernel)
    obtain ⟨pr, hpr⟩ : ∃ pr, pr = pairR rs L g := ⟨_, rfl⟩
    have hok : ∀ y ∈ heldL rs z, (pr y).ok := fun y _ => by rw [hpr]; exact pair_ok hgok y
    have heldsub : ∀ y ∈ heldL rs z, y ∈ plc rs := fun y hy => mem_plc.mpr (.inr (held_names hy))
    have heldnd : (heldL rs z).Nodup := List.Nodup.sublist (List.Sublist.map _ List.filter_sublist) hv.nodup
    have heldlen : (heldL rs z).length ≤ 100 := by
      unfold heldL
      rw [List.length_map]
      have := List.length_filter_le (heldP rs z) rs
      omega
    have hnum : ∀ b, rgSum (((heldL rs z).filter fun y => decide (v y = b)).map pr) = numW rs pr v z b := fun b => by rw [hpr]; exact held_num hv v hz b
    have hsz : ∀ i, (allF pr ((heldL rs z).take i)).length ≤ 100 := fun i => by rw [hpr]; exact nums_shut hv hsh i
    have hask : askedL rs pr v z = askL rs pr v z := by rw [hpr]; exact asked_eq hv hgok v hz
    rw [← hpr] at hcm
    -- the values and what is held
    refine ⟨_, rfl, m, mdx, _, rfl, m1, noS, m, t2, rs, _, _, rfl, hm.turns, fun vd hvd => ?_⟩
    rw [kvM_kvG hv (val_turnsG hv v)]
    have s1 : Same H (upd H vd (.dK (kvG rs v))) := Same.new hvd
    have e1 : (upd H vd (.dK (kvG rs v))) vd = some (.dK (kvG rs v)) := upd_same
    generalize upd H vd (.dK (kvG rs v)) = H1 at s1 e1
    refine ⟨_, rfl, _, rfl, _, rfl, p, d, z, rs, L, g, rfl, hL.same s1, hv, by omega, hRg.same s1, hz, fun hd H2 hhd s2 hP => ?_⟩
    rw [← hpr] at hP
    refine ⟨(by show 2 ≤ sizeLine; decide), fun tq htq => ⟨tq, _, rfl, sqT upd_same, rfl, _, _, rfl, _, _, rfl, rfl, ?_⟩⟩
    have s3 : Same H2 (upd H2 tq (.tup [V.ref vd, V.ref hd])) := Same.new htq
    generalize upd H2 tq (.tup [V.ref vd, V.ref hd]) = H3 at s3
    have S3 := s1.trans (s2.trans s3)
    have hP3 : PrsAt K H3 hd (heldL rs z) pr := let ⟨ad, q1, q2⟩ := hP; ⟨ad, s3 _ _ q1, fun y hy => sqT_same (q2 y hy) s3⟩
    have e13 := s3 _ _ (s2 _ _ e1)
    clear s1 e1 s2 hP htq s3 hvd hhd
    have PrS : ∀ {H' : Hp}, Same H3 H' → PrsAt K H' hd (heldL rs z) pr := fun {H'} s => let ⟨ad, q1, q2⟩ := hP3; ⟨ad, s _ _ q1, fun y hy => sqT_same (q2 y hy) s⟩
    -- the shut ones
    obtain ⟨ad, p1, p2⟩ := id hP3
    have hp3 := S3 _ _ hp
    refine ⟨_, rfl, p, rfl, ⟨_, SqL.of hp3⟩, fun D1 hD1 => ?_⟩
    refine lc_list (K := K) (a := p) (xs := as.map V.ref) (fun i H' => Same H3 H' ∧ H' D1 = some (.lst ((((rs.take i).filter fun r => decide (r.nm ∈ heldL rs z) && decide (r.ki = ("shut" : Str))).map (·.nm)).map V.str))) ⟨Same.new hD1, upd_same⟩ (fun i H' _ m => SqL.of (m.1 _ _ hp3)) ?_ ?_
    · rintro i x H8 hx ⟨s8, hD8⟩
      obtain ⟨ra, r, rfl, hra, hr', e0⟩ := rows_at hrows hx
      have e8 := s8 _ _ (S3 _ _ e0)
      have dg : DGet H8 hd (.str r.nm) (valV (kvX (fun z => V.ref (ad z)) (heldL rs z)) (.inr r.nm)) := .inl ⟨_, .inr r.nm, .inl (s8 _ _ p1), rfl, rfl⟩
      have ei : (valV (kvX (fun z => V.ref (ad z)) (heldL rs z)) (.inr r.nm : Key)).isSome = decide (r.nm ∈ heldL rs z) := by
        by_cases q : r.nm ∈ heldL rs z
        · rw [valV_kvX (fun z => V.ref (ad z)) q, decide_eq_true q]; rfl
        · rw [valV_kvX_none q, decide_eq_false q]; rfl
      have szD : (((rs.take i).filter fun r => decide (r.nm ∈ heldL rs z) && decide (r.ki = ("shut" : Str))).map (·.nm)).length ≤ 1000 := by
        rw [List.length_map]
        have h1 := List.length_filter_le (fun r => decide (r.nm ∈ heldL rs z) && decide (r.ki = ("shut" : Str))) (rs.take i)
        rw [List.length_take] at h1
        omega
      have no : ∀ (hb : ¬ (decide (r.nm ∈ heldL rs z) && decide (r.ki = ("shut" : Str))) = true), Same H3 H8 ∧ H8 D1 = some (.lst ((((rs.take (i + 1)).filter fun r => decide (r.nm ∈ heldL rs z) && decide (r.ki = ("shut" : Str))).map (·.nm)).map V.str)) := fun hb => by
        refine ⟨s8, ?_⟩
        rw [take_more hr', List.filter_append, List.filter_cons_of_neg (p := fun r : Row => decide (r.nm ∈ heldL rs z) && decide (r.ki = ("shut" : Str))) hb, List.filter_nil, List.append_nil]
        exact hD8
      refine ⟨rfl, _, rfl, ra, _, _, _, rfl, rfl, sqT e8, atI0 _ _ _ _, _, rfl, hd, _, rfl, dg, _, rfl, ?_⟩
      rw [ei]
      refine ite2 (fun h1 => ?_) (fun h1 => ?_)
      · refine ⟨_, rfl, ra, _, _, _, rfl, rfl, sqT e8, atI2 _ _ _ _, rfl, _, rfl, ?_⟩
        refine ite2 (fun h2 => ?_) (fun h2 => ?_)
        · have h2' : r.ki = ("shut" : Str) := V.str.inj (of_decide_eq_true h2)
          refine ⟨_, rfl, ra, _, _, _, rfl, rfl, sqT e8, atI0 _ _ _ _, _, hD8, by rw [List.length_map]; exact small1000 szD, fun b o eb => ?_, ?_⟩
          · rw [upd_ne (fun y => by rw [y, hD1] at eb; cases eb)]
            exact s8 _ _ eb
          · rw [upd_same, take_more hr', List.filter_append, List.filter_cons_of_pos (p := fun r : Row => decide (r.nm ∈ heldL rs z) && decide (r.ki = ("shut" : Str))) (by rw [h1, decide_eq_true h2']; rfl), List.map_append, List.map_append]; rfl
        · have h2' : ¬ r.ki = ("shut" : Str) := fun e => h2 (decide_eq_true (by rw [e]))
          exact no (by rw [decide_eq_false h2', Bool.and_false]; exact Bool.false_ne_true)
      · exact iteF' rfl (no (by rw [Bool.eq_false_iff.mpr h1]; exact Bool.false_ne_true))
    rintro H4 ⟨s4, e4⟩
    rw [List.length_map, hrows.len, List.take_length] at e4
    have T4 : Same H3 H4 := s4
    have S4 : Same H H4 := S3.trans s4
    refine ⟨_, rfl, c, cdx, _, rfl, S4 _ _ c1, noN (by decide +kernel) (by decide +kernel), _, rfl, _, rfl, c, m, z, rs, pr, v, rfl, hcm.same S4, hz, fun a5 H5 s5 ha5 => ?_⟩
    refine ⟨_, rfl, _, rfl, hd, vd, true, heldL rs z, pr, rs, v, rfl, PrS (T4.trans s5), heldlen, heldsub, (T4.trans s5) _ _ e13, fun b5 H5' s5' hb5 => ?_⟩
    rw [hnum true] at hb5
    refine rd_neRg (sqT_same ha5 s5') hb5 ⟨_, rfl, iteF ?_⟩
    have T5 : Same H3 H5' := T4.trans (s5.trans s5')
    have S5 : Same H H5' := S3.trans T5
    refine ⟨_, rfl, c, cdx, _, rfl, S5 _ _ c1, noN (by decide +kernel) (by decide +kernel), _, rfl, _, rfl, c, m, z, rs, pr, v, rfl, hcm.same S5, hz, fun a6 H6 s6 ha6 => ?_⟩
    refine ⟨_, rfl, _, rfl, hd, vd, false, heldL rs z, pr, rs, v, rfl, PrS (T5.trans s6), heldlen, heldsub, (T5.trans s6) _ _ e13, fun b6 H6' s6' hb6 => ?_⟩
    rw [hnum false] at hb6
    refine rd_neRg (sqT_same ha6 s6') hb6 ⟨_, rfl, iteF ?_⟩
    have T6 : Same H3 H6' := T5.trans (s6.trans s6')
    have S6 : Same H H6' := S3.trans T6
    have e46 := (s5.trans (s5'.trans (s6.trans s6'))) _ _ e4
    clear s5 s5' s6 s6' ha5 hb5 ha6 hb6 e4 s4 S4 S5
    -- all numbers
    refine ⟨_, rfl, hd, heldL rs z, pr, rfl, PrS T6, heldnd, heldlen, hsz, fun sl fa H7 hsl s7 e7 hDs => ?_⟩
    have T7 := T6.trans s7
    have hfl : (allF pr (heldL rs z)).length ≤ 100 := by
      have := hsz (heldL rs z).length
      rw [List.take_length] at this
      exact this
    have e47 := s7 _ _ e46
    -- what is due
    refine ⟨_, rfl, sl, rfl, ⟨_, SqL.of e7⟩, fun D2 hD2 => ?_⟩
    refine lc_list (K := K) (a := sl) (xs := fa.map V.ref) (fun i H' => Same H7 H' ∧ H' D2 = some (.lst ((((allF pr (heldL rs z)).take i).map (wordF v (heldL rs z))).map V.str))) ⟨Same.new hD2, upd_same⟩ (fun i H' _ m => SqL.of (m.1 _ _ e7)) ?_ ?_
    · rintro i x H8 hx ⟨s8, e8⟩
      rw [List.getElem?_map] at hx
      obtain ⟨a, ha, rfl⟩ := Option.map_eq_some_iff.mp hx
      have hil : i < fa.length := (List.getElem?_eq_some_iff.mp ha).1
      obtain ⟨f, hf⟩ : ∃ f, (allF pr (heldL rs z))[i]? = some f := ⟨_, List.getElem?_eq_getElem (by rw [← hDs.len]; exact hil)⟩
      refine ⟨rfl, tYes_if ⟨_, rfl, _, rfl, a, vd, f, heldL rs z, rs, v, rfl, s8 _ _ (hDs.at_ i a f ha hf), heldlen, heldsub, (T7.trans s8) _ _ e13, fun H9 s9 => ⟨_, s9 _ _ e8, small1000 (by rw [List.length_map, List.length_map, List.length_take]; omega), fun o' ob eb => ?_, ?_⟩⟩⟩
      · rw [upd_ne (fun q => by rw [q, hD2] at eb; cases eb)]
        exact s9 _ _ (s8 _ _ eb)
      · rw [upd_same, take_more hf, List.map_append, List.map_append]; rfl
    rintro H8 ⟨s8, e8⟩
    rw [List.length_map, hDs.len, List.take_length] at e8
    refine ⟨D2, _, rfl, SqL.of e8, (by rw [List.length_map]; omega), fun sp ws H9 wnd wmem hsp s9 e9 => ?_⟩
    have wperm : ws.Perm (wordsB (mayB (numW rs pr v z true)) (mayB (numW rs pr v z false))) := by
      have en : ∀ b, numW rs pr v z b = sideR pr (heldL rs z) v b := fun b => (hnum b).symm
      rw [en, en]
      refine (List.perm_ext_iff_of_nodup wnd (wordsB_nodup (may_nodup _) (may_nodup _))).mpr fun q => ?_
      rw [wmem, words_iff hok, List.mem_map]
    have wlen : ws.length ≤ 4 := by
      rw [wperm.length_eq, wordsB_len]
      exact Nat.le_trans (Nat.mul_le_mul (mayB_len _) (mayB_len _)) (by decide)
    refine ⟨sp, ws, rfl, e9, by omega, fun ys dl yperm ysort hdl => ?_⟩
    have s10 : Same H9 (upd H9 dl (.lst (ys.map V.str))) := Same.new hdl
    have e10 : (upd H9 dl (.lst (ys.map V.str))) dl = some (.lst (ys.map V.str)) := upd_same
    generalize upd H9 dl (.lst (ys.map V.str)) = H10 at s10 e10
    have T10 : Same H3 H10 := T7.trans (s8.trans (s9.trans s10))
    have s710 : Same H7 H10 := s8.trans (s9.trans s10)
    have eys := yperm.trans wperm
    have ylen : ys.length ≤ 4 := by rw [yperm.length_eq]; exact wlen
    have yok : ∀ x ∈ ys, PyData.strOk x = true := fun x hx => by
      obtain ⟨a, _, b, _, rfl⟩ := mem_wordsB.mp (eys.mem_iff.mp hx)
      exact shown_ok a b
    clear e8 s8 s9 e9 wnd wmem wperm wlen s10 hdl
    -- what is asked
    refine ⟨_, rfl, D1, rfl, ⟨_, SqL.of (s710 _ _ e47)⟩, fun D3 hD3 => ?_⟩
    obtain ⟨su, hsu⟩ : ∃ su, su = (rs.filter fun r => decide (r.nm ∈ heldL rs z) && decide (r.ki = ("shut" : Str))).map (·.nm) := ⟨_, rfl⟩
    have lsu : su.length ≤ 100 := by
      rw [hsu, List.length_map]
      have := List.length_filter_le (fun r : Row => decide (r.nm ∈ heldL rs z) && decide (r.ki = ("shut" : Str))) rs
      omega
    rw [← hsu] at e47
    refine lc_list (K := K) (a := D1) (xs := su.map V.str) (fun i H' => Same H10 H' ∧ H' D3 = some (.lst (((su.take i).filter fun y => hangF y (heldL rs z) (allF pr (heldL rs z)) v).map V.str))) ⟨Same.new hD3, upd_same⟩ (fun i H' _ m => SqL.of (m.1 _ _ (s710 _ _ e47))) ?_ ?_
    · rintro i x H11 hx ⟨s11, e11⟩
      rw [List.getElem?_map] at hx
      obtain ⟨y, hy, rfl⟩ := Option.map_eq_some_iff.mp hx
      have lt : ((su.take i).filter fun y => hangF y (heldL rs z) (allF pr (heldL rs z)) v).length ≤ 200 := by
        have h1 := List.length_filter_le (fun y => hangF y (heldL rs z) (allF pr (heldL rs z)) v) (su.take i)
        rw [List.length_take] at h1
        omega
      have s711 := s710.trans s11
      refine ⟨rfl, _, rfl, _, rfl, _, rfl, _, rfl, hd, sl, vd, y, heldL rs z, pr, fa, allF pr (heldL rs z), rs, v, rfl, PrS (T10.trans s11), heldlen, s711 _ _ e7, hDs.same s711, hfl, heldsub, (T10.trans s11) _ _ e13, fun H12 s12 => ⟨_, rfl, ?_⟩⟩
      refine ite2 (fun hb => ?_) (fun hb => ?_)
      · refine ⟨_, rfl, _, s12 _ _ e11, small1000 (by rw [List.length_map]; omega), fun o' ob eb => ?_, ?_⟩
        · rw [upd_ne (fun q => by rw [q, hD3] at eb; cases eb)]
          exact s12 _ _ (s11 _ _ eb)
        · rw [upd_same, take_more hy, List.filter_append, List.filter_cons_of_pos (p := fun y => hangF y (heldL rs z) (allF pr (heldL rs z)) v) hb, List.map_append]; rfl
      · refine ⟨s11.trans s12, ?_⟩
        rw [take_more hy, List.filter_append, List.filter_cons_of_neg (p := fun y => hangF y (heldL rs z) (allF pr (heldL rs z)) v) hb, List.filter_nil, List.append_nil]
        exact s12 _ _ e11
    rintro H11 ⟨s11, e11⟩
    rw [List.length_map, List.take_length, hsu] at e11
    have e11 : H11 D3 = some (.lst ((askedL rs pr v z).map V.str)) := e11
    rw [hask] at e11
    have T11 := T10.trans s11
    have S11 := S3.trans T11
    have e12 := s11 _ _ e10
    have aok : ∀ x ∈ askL rs pr v z, PyData.strOk x = true := fun x hx => by
      rw [← hask] at hx
      unfold askedL at hx
      obtain ⟨r, hr', rfl⟩ := List.mem_map.mp (List.mem_filter.mp hx).1
      exact names_ok hv _ (List.mem_map.mpr ⟨r, (List.mem_filter.mp hr').1, rfl⟩)
    have alen : (askL rs pr v z).length ≤ 100 := by
      rw [← hask]
      unfold askedL
      refine Nat.le_trans (List.length_filter_le _ _) ?_
      rw [← hsu]
      exact lsu
    have one : ys.length = 1 ↔ askL rs pr v z = [] := by
      rw [eys.length_eq]
      have en : ∀ b, numW rs pr v z b = sideR pr (heldL rs z) v b := fun b => (hnum b).symm
      rw [en, en, one_iff hok]
      constructor
      · intro h
        refine List.eq_nil_iff_forall_not_mem.mpr fun y hy => ?_
        rw [← hask] at hy
        unfold askedL at hy
        obtain ⟨q1, q2⟩ := List.mem_filter.mp hy
        obtain ⟨r, hr', rfl⟩ := List.mem_map.mp q1
        have hh := of_decide_eq_true (Bool.and_eq_true_iff.mp (List.mem_filter.mp hr').2).1
        exact h _ hh ((hang_iff hok hh).mp q2)
      · rintro h y hy ⟨q1, q2⟩
        have hm : y ∈ askL rs pr v z := by
          unfold askL
          obtain ⟨r, hr', rfl⟩ := List.mem_map.mp hy
          have hw : r.nm ∈ withinC rs z := ((mem_held hv (List.mem_filter.mp hr').1).mp hy).2
          exact List.mem_filter.mpr ⟨List.mem_filter.mpr ⟨hw, decide_eq_true (by rw [en]; exact q1)⟩, decide_eq_true q2⟩
        rw [h] at hm
        cases hm
    clear e7 hDs hfl e46 e47 hsu lsu s710 T10 e10 s11 T6 T7 T5 T4
    refine ⟨2, rfl, by decide, by decide, ?_⟩
    refine for_range (lo := 0) (n := (2 : Int).toNat) (fun i σ H' => ∃ v11 v12 v13 v14 v15 v16 : Option V, σ = [some (.ref c), some (.ref m), some (.ref p), some (.ref d), some (.str z), some (.ref vd), some (.ref hd), some (.ref D1), some (.ref sl), some (.ref dl), some (.ref D3), v11, v12, v13, v14, v15, v16] ∧ Same H11 H') ⟨_, _, _, _, _, _, rfl, Same.refl _⟩ ?_ ?_
    rotate_left
    · rintro σ H' ⟨_, _, _, _, _, _, rfl, s⟩
      exact hq H' (S11.trans s)
    rintro i_ σ H20 hi ⟨v11, v12, v13, v14, v15, v16, rfl, s20⟩
    have S20 := S11.trans s20
    refine ⟨_, rfl, c, cdx, _, rfl, S20 _ _ c1, noN (by decide +kernel) (by decide +kernel), _, rfl, _, rfl, c, m, z, rs, pr, v, rfl, hcm.same S20, hz, fun F1 H21 ws hF1 s21 e21 wp wsrt => ?_⟩
    have hws : ws = ys := (sorted_same wp eys wsrt ysort).mpr (List.Perm.refl _)
    rw [hws] at e21
    have S21 := S20.trans s21
    refine ⟨_, rfl, c, cdx, _, rfl, S21 _ _ c1, noN (by decide +kernel) (by decide +kernel), _, rfl, _, rfl, c, m, z, rs, pr, v, rfl, hcm.same S21, hz, fun F2 H22 hF2 s22 e22 => ?_⟩
    refine ⟨(by show 2 ≤ sizeLine; decide), fun fl hfl => ?_⟩
    have s23 : Same H22 (upd H22 fl (.lst [V.ref F1, V.ref F2])) := Same.new hfl
    have e23 : (upd H22 fl (.lst [V.ref F1, V.ref F2])) fl = some (.lst [V.ref F1, V.ref F2]) := upd_same
    generalize upd H22 fl (.lst [V.ref F1, V.ref F2]) = H23 at s23 e23
    have T23 : Same H20 H23 := s21.trans (s22.trans s23)
    have f1 := s23 _ _ (s22 _ _ e21)
    have f2 := s23 _ _ e22
    have nf12 : F1 ≠ F2 := ne_of_none e21 hF2
    have nf1 : fl ≠ F1 := (ne_of_none (s22 _ _ e21) hfl).symm
    have nf2 : fl ≠ F2 := (ne_of_none e22 hfl).symm
    have hF2' : H20 F2 = none := s21.free hF2
    clear s21 s22 s23 e21 e22 hfl hF2 S21 wp wsrt hws
    refine ⟨_, rfl, _, rfl, _, rfl, (by show 2 ≤ sizeLine; decide), fun g2 hg2 => ?_⟩
    have s24 : Same H23 (upd H23 g2 (.lst [V.ref dl, V.ref D3])) := Same.new hg2
    have e24 : (upd H23 g2 (.lst [V.ref dl, V.ref D3])) g2 = some (.lst [V.ref dl, V.ref D3]) := upd_same
    generalize upd H23 g2 (.lst [V.ref dl, V.ref D3]) = H24 at s24 e24
    have T24 : Same H11 H24 := s20.trans (T23.trans s24)
    refine rd_neLL (s24 _ _ e23) e24 (s24 _ _ f1) (s24 _ _ f2) (T24 _ _ e12) (T24 _ _ e11) yok aok ⟨_, rfl, iteF ?_⟩
    refine ⟨_, rfl, dl, _, rfl, .inl (SqL.of (T24 _ _ e12)), rfl, _, rfl, (by show 0 ≤ sizeLine; decide), fun nl hnl => ?_⟩
    have s25 : Same H24 (upd H24 nl (.lst [])) := Same.new hnl
    have e25 : (upd H24 nl (.lst [])) nl = some (.lst []) := upd_same
    generalize upd H24 nl (.lst []) = H25 at s25 e25
    refine rd_eqNil ((T24.trans s25) _ _ e11) aok e25 ⟨rfl, _, rfl, ?_⟩
    refine iteF' ?_ ?_
    · rw [List.length_map]
      by_cases q : askL rs pr v z = []
      · have h1 := one.mpr q
        rw [h1, decide_eq_true q]
        rfl
      · have h1 : ¬ ys.length = 1 := fun e => q (one.mp e)
        have h2 : ¬ V.int (ys.length : Int) = V.int 1 := fun e => h1 (by have := V.int.inj e; omega)
        rw [decide_eq_false q, decide_eq_false h2]
        rfl
    have s2325 := s24.trans s25
    have f1' := s2325 _ _ f1
    have f2' := s2325 _ _ f2
    have efl := s2325 _ _ e23
    have T25 : Same H20 H25 := T23.trans s2325
    clear f1 f2 e23 s24 s25 e24 e25 hg2 hnl s2325 T24 T23
    refine ⟨_, rfl, fl, rfl, ⟨_, SqL.of efl⟩, ?_⟩
    refine for_list (K := K) (a := fl) (xs := [V.ref F1, V.ref F2]) (fun j σ H' => ∃ v13 : Option V, σ = [some (.ref c), some (.ref m), some (.ref p), some (.ref d), some (.str z), some (.ref vd), some (.ref hd), some (.ref D1), some (.ref sl), some (.ref dl), some (.ref D3), some (.int (0 + (i_ : Int))), some (.ref fl), v13, v14, v15, v16] ∧ (∀ b o, b ≠ F1 → b ≠ F2 → H25 b = some o → H' b = some o) ∧
        (∃ x1, H' F1 = some (.lst x1) ∧ x1.length ≤ 100 + j) ∧ ∃ x2, H' F2 = some (.lst x2) ∧ x2.length ≤ 100 + j)
      ⟨_, rfl, fun b o _ _ e => e, ⟨_, f1', by rw [List.length_map]; omega⟩, ⟨_, f2', by rw [List.length_map]; omega⟩⟩ (fun j σ H' _ ⟨_, _, k, _⟩ => SqL.of (k _ _ nf1 nf2 efl)) ?_ ?_
    · rintro j x σ H26 hx ⟨v13', rfl, k26, ⟨x1, q1, l1⟩, x2, q2, l2⟩
      have hj2 : j < 2 := (List.getElem?_eq_some_iff.mp hx).1
      match j, hj2, hx with
      | 0, _, hx =>
        cases hx
        refine ⟨_, rfl, .inl ⟨rfl, _, SqL.of q1⟩, F1, _, _, rfl, rfl, q1, small1000 (by omega), ?_⟩
        refine ⟨_, rfl, fun b o n1 n2 e => by rw [upd_ne n1]; exact k26 b o n1 n2 e, ⟨_, upd_same, by rw [List.length_append, List.length_singleton]; omega⟩, ⟨x2, by rw [upd_ne (Ne.symm nf12)]; exact q2, by omega⟩⟩
      | 1, _, hx =>
        cases hx
        refine ⟨_, rfl, .inl ⟨rfl, _, SqL.of q2⟩, F2, _, _, rfl, rfl, q2, small1000 (by omega), ?_⟩
        refine ⟨_, rfl, fun b o n1 n2 e => by rw [upd_ne n2]; exact k26 b o n1 n2 e, ⟨x1, by rw [upd_ne nf12]; exact q1, by omega⟩, ⟨_, upd_same, by rw [List.length_append, List.length_singleton]; omega⟩⟩
    rintro σ H26 ⟨v13', rfl, k26, _⟩
    exact ⟨_, _, _, _, _, _, rfl, fun b o e => k26 b o (ne_of_none (s20 _ _ e) hF1) (ne_of_none (s20 _ _ e) hF2') (T25 _ _ (s20 _ _ e))⟩
end
end Ts

set_option maxRecDepth 100000
set_option maxHeartbeats 4000000
namespace Ts
open PySem L2
/-! ### counts without told ranges -/
def spCountsInitN (K : PySem.W.Frag) (C CC : Addr) : Sp := fun vs H Q _ => ∃ (c dx t : Addr) (rs : List Row), vs = [.ref c, .ref t, .non] ∧ H c = some (.ins CC dx []) ∧ TreeAt C H t rs ∧ ∀ H', SB c H H' → CntAt K C CC H' c t rs (pairR rs [] fun _ => noI) → Q .non H'
section
variable {P : Program} {w : World} {K : PySem.W.Frag} {mg : Str → Option Value} {base : Heap} {C CM CC : Addr}
theorem ok_Counts_initN {f : Addr} {fd : FuncData} {dvs : List V} (F : FunD K "__init__" "Counts.__init__" (defArgs s_Counts_init) (defBody s_Counts_init) (defScope s_Counts_init) dvs [] f fd) (TK : TxK K mg CC)
    (Dc : DefAt K mg "check_ranges" s_check_ranges ["tree", "ranges"]) (Gc : FnOk P w K mg base CX0 5 Dc.f Dc.fd ["tree", "ranges"] (spCheckRg C))
    (Do : DefAt K mg "ranges_of" s_ranges_of ["tree", "ranges"]) (Go : FnOk P w K mg base CX0 6 Do.f Do.fd ["tree", "ranges"] (spRangesOf K C)) : FnOk P w K mg base CX0 7 f fd ["self", "tree", "ranges"] (spCountsInitN K C CC) := by
  refine F.ok sc_Counts_init (fun vs H Q E h => ?_) (fun cdv A outer s H vs Q E hr h => ?_)
  · obtain ⟨c, dx, t, rs, rfl, _⟩ := h
    rfl
  · obtain ⟨c, dx, t, rs, rfl, hc, ht, hq⟩ := h
    have L : List Str := []
    clear L
    have r5 : Room 5 _ := hr.mono (by decide)
    refine ⟨_, pss_cons (ps_set (i := 3) sc_Counts_init.nd rfl (.inl rfl) (pe_ifExp (pt_cmpR op_isN (pv 2) pe_non (nomark _)) pe_dnewK (pv 2)))
      (pss_cons (ps_expr (pe_call Gc r5 rfl Dc.g Dc.F.kp Dc.b .nil pass0 (pa_cons (pv 1) (pa_cons (pv 3) pa_nil))))
      (pss_cons (ps_fld (pv 0) (pv 1) rfl)
      (pss_one (ps_fld (pv 0) (pe_call Go hr rfl Do.g Do.F.kp Do.b .nil pass0 (pa_cons (pv 1) (pa_cons (pv 3) pa_nil))) rfl)))), ?_⟩
    refine ⟨_, rfl, rfl, _, rfl, ?_⟩
    refine iteT fun d hd => ?_
    have s0 : Same H (upd H d (.dK [])) := Same.new hd
    have e0 : (upd H d (.dK [])) d = some (.dK []) := upd_same
    have dc : c ≠ d := ne_of_none hc hd
    generalize upd H d (.dK []) = HH at s0 e0
    replace hc := s0 _ _ hc
    replace ht := ht.same s0
    have hRg : RgsAt HH d [] (fun _ => noI) := ⟨fun _ => 0, e0, fun z hz => by cases hz⟩
    have hl : ([] : List Str).length ≤ 100 := by decide
    have hok : ∀ z ∈ ([] : List Str), (noI).ok ∧ ∃ r, rowOf rs z = some r ∧ r.ki = ("shut" : Str) := fun z hz => by cases hz
    refine ⟨_, rfl, _, rfl, t, d, rs, [], (fun _ => noI), rfl, ht, hRg, hok, fun H1 s1 => ?_⟩
    refine ⟨_, rfl, _, rfl, c, CC, dx, _, rfl, s1 _ _ hc, TK.cl, TK.nt, (by show 0 < 1000; decide), ?_⟩
    have sb2 : SB c HH (upd H1 c (.ins CC dx (putF "tree" (.ref t) []))) := fun b o nb e => by rw [upd_ne nb]; exact s1 _ _ e
    have c2 : (upd H1 c (.ins CC dx (putF "tree" (.ref t) []))) c = some (.ins CC dx (putF "tree" (.ref t) [])) := upd_same
    generalize upd H1 c (.ins CC dx (putF "tree" (.ref t) [])) = H2 at sb2 c2
    have ht2 : TreeAt C H2 t rs := ht.sbm hc sb2
    have rg2 : RgsAt H2 d [] (fun _ => noI) := by
      obtain ⟨ad, h1, h2⟩ := hRg
      refine ⟨ad, sb2 _ _ (fun e => by rw [e, hc] at h1; cases h1) h1, fun z hz => ?_⟩
      have h3 := h2 z hz
      have nc : ad z ≠ c := fun e => by rw [e] at h3; rcases h3 with h3 | h3 <;> (rw [hc] at h3; cases h3)
      exact h3.imp (sb2 _ _ nc) (sb2 _ _ nc)
    refine ⟨_, rfl, _, rfl, t, d, rs, [], (fun _ => noI), rfl, ht2, rg2, hl, fun D H3 hD s3 hp => ?_⟩
    refine ⟨_, rfl, c, CC, dx, _, rfl, s3 _ _ c2, TK.cl, TK.np, (Nat.lt_of_le_of_lt (putF_len _ _ _) (by decide)), ?_⟩
    have sb4 : SB c HH (upd H3 c (.ins CC dx (cf t D))) := fun b o nb e => by rw [upd_ne nb]; exact s3 _ _ (sb2 b o nb e)
    have nDc : D ≠ c := fun e => by rw [e, c2] at hD; cases hD
    refine hq _ (fun b o nb e => sb4 b o nb (s0 b o e)) ⟨⟨dx, D, upd_same, ?_⟩, ht.sbm hc sb4⟩
    obtain ⟨ad, h1, h2⟩ := hp
    refine ⟨ad, by rw [upd_ne nDc]; exact h1, fun z hz => ?_⟩
    have h4 := h2 z hz
    have c3 := s3 _ _ c2
    rcases h4 with (h | ⟨o, h⟩) | h
    · exact .inl (.inl (by rw [upd_ne (fun e => by rw [e, c3] at h; cases h)]; exact h))
    · exact .inl (.inr ⟨o, by rw [upd_ne (fun e => by rw [e, c3] at h; cases h)]; exact h⟩)
    · exact .inr h
end
end Ts

set_option maxRecDepth 100000
set_option maxHeartbeats 4000000
namespace Ts
open PySem L2
def openN (rs : List Row) : List Str := (rs.filter fun r => decide (r.pr ≠ none)).map (·.nm)
theorem openN_free {rs : List Row} (hv : Valid rs) : ∀ z ∈ openN rs, Free rs z := fun z hz => by
  obtain ⟨r, hr', rfl⟩ := List.mem_map.mp hz
  rw [List.mem_filter, decide_eq_true_eq] at hr'
  obtain ⟨i, hi, e⟩ := List.mem_iff_getElem.mp hr'.1
  exact ⟨r, rowOf_at hv (by rw [← e]; exact List.getElem?_eq_getElem hi), hr'.2⟩
theorem openN_len {rs : List Row} (h : rs.length ≤ 100) : (openN rs).length ≤ 100 := by
  unfold openN
  rw [List.length_map]
  exact Nat.le_trans (List.length_filter_le _ _) h
def spLMeaning (C CM : Addr) : Sp := fun vs H Q _ => ∃ (a p t : Addr) (n : Int) (rs : List Row), vs = [.ref a, .ref p, .ref t] ∧ Stm H a n ∧ n ≤ 500000000 ∧ RowsL H p rs ∧ p ≠ a ∧ TreeAt C H t rs ∧ ∀ m v H', MV C CM H' m t rs v → SB a H H' → (∀ b, H b = none → H' b ≠ none → True) → Stm H' a (n + 200) → Q (.ref m) H'
section
variable {P : Program} {w : World} {K : PySem.W.Frag} {mg : Str → Option Value} {base : Heap} {C CM : Addr}
abbrev pMng : List Str := ["_law_stream_here", "_law_rows_here", "_law_tree"]
theorem sc_mng : FnScope pMng pMng (defScope s_L_meaning) := ⟨rfl, rfl, rfl, by decide +kernel, rfl, by decide +kernel, by decide +kernel⟩
theorem ok_mng {fM : Addr} {fdM : FuncData} (D : DefAt K mg "_law_meaning" s_L_meaning pMng) (M : TxM K mg CM) (Dd : DefAt K mg "_law_draw" s_L_draw ["_law_stream_here", "_law_many"]) (Gd : FnOk P w K mg base CX0 2 Dd.f Dd.fd ["_law_stream_here", "_law_many"] spDraw)
    (Do : DefAt K mg "_law_open" s_L_open ["_law_rows_here"]) (Go : FnOk P w K mg base CX0 2 Do.f Do.fd ["_law_rows_here"] spLOpen)
    (Dso : DefAt K mg "_law_some" s_L_some ["_law_stream_here", "_law_things"]) (Gso : FnOk P w K mg base CX0 3 Dso.f Dso.fd ["_law_stream_here", "_law_things"] spLSome)
    (MM : Mk K CM fM) (bM : Binds K fdM ["self", "tree", "default", "turns"] []) (GM : FnOk P w K mg base CX0 7 fM fdM ["self", "tree", "default", "turns"] (spMeaningInit K C CM)) :
    FnOk P w K mg base CX0 9 D.f D.fd pMng (spLMeaning C CM) := by
  refine D.F.ok sc_mng (fun vs H Q E h => ?_) (fun cdv A outer s H vs Q E hr h => ?_)
  · obtain ⟨a, p, t, n, rs, rfl, _⟩ := h
    rfl
  · obtain ⟨a, p, t, n, rs, rfl, hst, hn, hL, np, ht, hq⟩ := h
    have hr2 : Room 3 _ := hr.mono (by decide)
    have hr1 : Room 2 _ := hr.mono (by decide)
    have hv := ht.val
    have hl := ht.len
    refine ⟨_, pss_one (ps_ret (pe_make MM GM hr rfl M.g bM .nil pass0 (pa_cons (pv 2) (pa_cons (pe_cmpR op_eq (pe_call Gd hr1 rfl Dd.g Dd.F.kp Dd.b .nil pass0 (pa_cons (pv 0) (pa_cons pe_int pa_nil))) pe_int (nomark _)) (pa_cons (pe_call Gso hr2 rfl Dso.g Dso.F.kp Dso.b .nil pass0 (pa_cons (pv 0) (pa_cons (pe_call Go hr1 rfl Do.g Do.F.kp Do.b .nil pass0 (pa_cons (pv 1) pa_nil)) pa_nil))) pa_nil))))), ?_⟩
    refine ⟨_, rfl, _, rfl, a, 2, n, rfl, hst, by omega, by decide, by decide, fun r H1 r0 r1 st1 he1 => ⟨rfl, ?_⟩⟩
    have sb1 := sb_eq (H := H) he1
    have L1 := hL.sbk np hst sb1
    have t1 := ht.kl (KL.sb hst sb1)
    refine ⟨_, rfl, _, rfl, p, rs, rfl, L1, hl, fun D2 H2 hD2 s2 e2 => ?_⟩
    have lo := openN_len hl
    refine ⟨a, D2, _, _, rfl, st1.same s2, by omega, (st1.ne hD2).symm, e2, lo, fun u H3 ts hu3 nu eu hsub sb3 st3 => ?_⟩
    have t3 := (t1.same s2).kl (KL.sb (st1.same s2) sb3)
    have fr : ∀ z ∈ ts, Free rs z := fun z hz => openN_free hv z (hsub.subset hz)
    have hnorm : turnsL rs ts = ts := turnsL_sub hv (hsub.trans (List.Sublist.map _ List.filter_sublist))
    refine fun m dm nm nd _ => ⟨m, dm, t, u, _, ts, rs, rfl, upd_same, t3.same (mk_same0 nm nd), SqX.same (.inl (SqL.of eu)) (mk_same0 nm nd), fr, fun H4 sb4 hm => ⟨rfl, ?_⟩⟩
    rw [hnorm] at hm
    have s4 := mk_same nm nd sb4
    refine hq m _ H4 (MV.of hm fr) ((sb1.trans (SB.of s2)).trans (sb3.trans (SB.of s4))) (fun _ _ _ => trivial) ((st3.same s4).mono ?_)
    have e : ((rs.filter fun r => decide (r.pr ≠ none)).map (·.nm)).length ≤ 100 := lo
    omega
end
end Ts

set_option maxRecDepth 100000
set_option maxHeartbeats 8000000
namespace Ts
open PySem L2
def spLawL (K : PySem.W.Frag) : Sp := fun vs H Q _ => ∃ (a : Addr) (ns : List Int), vs = [.ref a] ∧ SqL K H a (ns.map V.int) ∧ ns.length ≤ 63 ∧ ∀ H', Q (.bl true) H'
abbrev nLaw : List Str := ["_law_script", "_law_turn", "_law_stream_here", "_law_rows_here", "_law_ranges", "_law_tree", "_law_given", "_law_counts", "_law_meaning_here", "_law_name_here", "_law_plain", "_law_bare", "_law_box", "_law_row"]
theorem paired_snoc {α β : Type} {F : α → β → Prop} : ∀ {l : List α} {m : List β} {a : α} {b : β}, Paired F l m → F a b → Paired F (l ++ [a]) (m ++ [b])
  | _, _, _, _, .nil, h => .cons h .nil
  | _, _, _, _, .cons r t, h => .cons r (paired_snoc t h)
/-- a dict of references is emptied: what stands beside it -/
theorem clr_tree {C : Addr} {H : Hp} {t gv : Addr} {rs : List Row} {ad : Str → Addr} {L : List Str} (h : TreeAt C H t rs) (hd : H gv = some (.dK (kvX (fun z => V.ref (ad z)) L))) : TreeAt C (upd H gv (.dK [])) t rs := by
  cases L with
  | nil =>
    have e : upd H gv (.dK []) = H := by
      funext b
      by_cases q : b = gv
      · rw [q, upd_same, hd]; rfl
      · rw [upd_ne q]
    rw [e]; exact h
  | cons x L => exact h.lockR hd (by simp)
theorem clr_mv {C CM : Addr} {H : Hp} {m t gv : Addr} {rs : List Row} {v : Str → Bool} {ad : Str → Addr} {L : List Str} (h : MV C CM H m t rs v) (hd : H gv = some (.dK (kvX (fun z => V.ref (ad z)) L))) : MV C CM (upd H gv (.dK [])) m t rs v := by
  obtain ⟨⟨d, ts, hm, e⟩, lk⟩ := h
  obtain ⟨dx, u, k, h1, h2, h3⟩ := hm.ex
  have nk : k ≠ gv := fun q => by
    rw [q, hd] at h3
    have e2 := HO.dK.inj (Option.some.inj h3)
    cases L with
    | nil => cases e2
    | cons x L =>
      have h4 := congrArg List.head? e2
      simp [kvX, kvM] at h4
  exact ⟨⟨d, ts, ⟨⟨dx, u, k, by rw [upd_ne (fun q => by rw [q, hd] at h1; cases h1)]; exact h1, by rw [upd_ne (fun q => by rw [q, hd] at h2; cases h2)]; exact h2, by rw [upd_ne nk]; exact h3⟩, clr_tree hm.tree hd, hm.norm⟩, e⟩, lk⟩
theorem clr_cnt {K : PySem.W.Frag} {C CC : Addr} {H : Hp} {c t gv : Addr} {rs : List Row} {pr : Str → Rg} {ad : Str → Addr} {L : List Str} (h : CntAt K C CC H c t rs pr) (hL : ("top" : Str) ∉ L) (hd : H gv = some (.dK (kvX (fun z => V.ref (ad z)) L))) : CntAt K C CC (upd H gv (.dK [])) c t rs pr := by
  obtain ⟨⟨dx, k, h1, a2, h2, h3⟩, ht⟩ := h
  have nk : k ≠ gv := fun q => by
    rw [q, hd] at h2
    have e2 := HO.dK.inj (Option.some.inj h2)
    cases L with
    | nil => cases e2
    | cons x L =>
      have h4 := congrArg List.head? e2
      simp only [kvX, plc, List.map_cons, List.head?_cons, Option.some.injEq, Prod.mk.injEq, Sum.inr.injEq] at h4
      exact hL (h4.1 ▸ List.mem_cons_self ..)
  refine ⟨⟨dx, k, by rw [upd_ne (fun q => by rw [q, hd] at h1; cases h1)]; exact h1, a2, by rw [upd_ne nk]; exact h2, fun y hy => ?_⟩, clr_tree ht hd⟩
  rcases h3 y hy with (q | ⟨o, q⟩) | q
  · exact .inl (.inl (by rw [upd_ne (fun e => by rw [e, hd] at q; cases q)]; exact q))
  · exact .inl (.inr ⟨o, by rw [upd_ne (fun e => by rw [e, hd] at q; cases q)]; exact q⟩)
  · exact .inr q
theorem CntAt.kl {K : PySem.W.Frag} {C CC : Addr} {H H' : Hp} {c t : Addr} {rs : List Row} {pr : Str → Rg} (h : CntAt K C CC H c t rs pr) (s : KL H H') : CntAt K C CC H' c t rs pr := by
  obtain ⟨⟨dx, k, h1, a2, h2, h3⟩, ht⟩ := h
  refine ⟨⟨dx, k, s _ _ h1 (fun _ e => nomatch e), a2, s _ _ h2 (fun _ e => nomatch e), fun y hy => ?_⟩, ht.kl s⟩
  rcases h3 y hy with (q | ⟨o, q⟩) | q
  · exact .inl (.inl (s _ _ q (fun _ e => nomatch e)))
  · exact .inl (.inr ⟨o, s _ _ q (fun _ e => nomatch e)⟩)
  · exact .inr q
theorem MV.klm {C CM : Addr} {H H' : Hp} {m t : Addr} {rs : List Row} {v : Str → Bool} (h : MV C CM H m t rs v) (s : KL H H') : MV C CM H' m t rs v := let ⟨⟨d, ts, hm, e⟩, lk⟩ := h; ⟨⟨d, ts, hm.kl s, e⟩, lk⟩
section
variable {P : Program} {w : World} {K : PySem.W.Frag} {mg : Str → Option Value} {base : Heap} {C CM CC : Addr}
theorem sc_law : FnScope nLaw ["_law_script"] (defScope s_law) := ⟨rfl, rfl, rfl, by decide +kernel, rfl, by decide +kernel, by decide +kernel⟩
theorem ok_law {fT fC : Addr} {fdT fdC : FuncData} {dsC : List Value} (D : DefAt K mg "law" s_law ["_law_script"]) (B : TxB mg) (TT : TxT K mg C) (M : TxM K mg CM) (TK : TxK K mg CC) (NC : TxN K C)
    (Ds : DefAt K mg "_law_stream" s_L_stream ["_law_script", "_law_k"])
    (Dco : DefAt K mg "_law_counted" s_L_counted ["_law_stream_here"]) (Gco : FnOk P w K mg base CX0 6 Dco.f Dco.fd ["_law_stream_here"] (spLCounted K))
    (Dmn : DefAt K mg "_law_meaning" s_L_meaning pMng) (Gmn : FnOk P w K mg base CX0 9 Dmn.f Dmn.fd pMng (spLMeaning C CM))
    (Dbx : DefAt K mg "_law_box_right" s_L_box_right pBx) (Gbx : FnOk P w K mg base CX0 9 Dbx.f Dbx.fd pBx (spBoxR K C CM CC))
    (mT : MethAt K C "__eq__" "Tree.__eq__" s_Tree_eq ["self", "other"]) (GTe : FnOk P w K mg base CX0 2 mT.f mT.fd ["self", "other"] (spEqT K C))
    (mOn : MethAt K CC "on" "Counts.on" s_Counts_on ["self", "meaning", "box"]) (GOn : FnOk P w K mg base CX0 7 mOn.f mOn.fd ["self", "meaning", "box"] (spSide K C CM CC true))
    (MT : Mk K C fT) (bT : Binds K fdT ["self", "rows"] []) (GT : FnOk P w K mg base CX0 5 fT fdT ["self", "rows"] (spTreeInit C))
    (MC : Mk K CC fC) (bC : Binds K fdC ["self", "tree", "ranges"] []) (GC : FnOk P w K mg base CX0 7 fC fdC ["self", "tree", "ranges"] (spCountsInit K C CC)) (bC1 : Binds K fdC ["self", "tree", "ranges"] dsC) (rC1 : Vals [V.non] dsC) (GCN : FnOk P w K mg base CX0 7 fC fdC ["self", "tree", "ranges"] (spCountsInitN K C CC)) :
    FnOk P w K mg base CX0 10 D.f D.fd ["_law_script"] (spLawL K) := by
  have Gs : FnOk P w K mg base CX0 2 Ds.f Ds.fd ["_law_script", "_law_k"] (spStream K) := ok_stream Ds B
  refine D.F.ok sc_law (fun vs H Q E h => ?_) (fun cdv A outer s H vs Q E hr h => ?_)
  · obtain ⟨a, ns, rfl, _⟩ := h
    rfl
  · obtain ⟨a0, ns, rfl, hS, hlen, hq⟩ := h
    have hu := hu_of hr
    have h64 := hr.units
    have r2 : Room 2 _ := hr.mono (by decide)
    have r3 : Room 3 _ := hr.mono (by decide)
    have r6 : Room 6 _ := hr.mono (by decide)
    have r7 : Room 7 _ := hr.mono (by decide)
    have r8 : Room 8 _ := hr.mono (by decide)
    refine ⟨_, pss_cons (ps_for PassesOwn.never rfl (pi_range1 (by rfl) B.range (pa_cons pe_int pa_nil)) (pg_name (i := 1) sc_law.nd rfl (.inl rfl))
        (pss_cons (ps_set (i := 2) sc_law.nd rfl (.inl rfl) (pe_call Gs r2 rfl Ds.g Ds.F.kp Ds.b .nil pass0 (pa_cons (pv 0) (pa_cons (pv 1) pa_nil))))
        (pss_cons (ps_asg (pe_call Gco r6 rfl Dco.g Dco.F.kp Dco.b .nil pass0 (pa_cons (pv 2) pa_nil)) (pg_tup rfl (pgs_cons (pg_name (i := 3) sc_law.nd rfl (.inl rfl)) (pgs_cons (pg_name (i := 4) sc_law.nd rfl (.inr rfl)) pgs_nil))))
        (pss_cons (ps_set (i := 5) sc_law.nd rfl (.inl rfl) (pe_make MT GT r6 rfl TT.g bT .nil pass0 (pa_cons (pv 3) pa_nil)))
        (pss_cons (ps_set (i := 6) sc_law.nd rfl (.inl rfl) (pe_callTy (call_dictP rfl) (by rfl) B.dict (by decide +kernel) (pa_cons (pe_lock (pe_lc (own := [("_law_name_here", 9)]) (g := gName 9) (tt := tYes) (te := tTup (tCons (tVar 9) (tCons (tCB (fun xs H Q => ∃ p ys, xs = [V.ref p] ∧ (SqL K H p ys ∨ SqT K H p ys) ∧ ∀ l, H l = none → Q (.ref l) (upd H l (.lst ys))) (tCons (tDGet (tVar 4) (tVar 9)) tNil)) tNil))) rfl sc_law.nd (pi_keys (pv 4)) (blkOk_by (N := nLaw) (sc := defScope s_law) (by decide +kernel))
          (fun _ _ _ _ _ => pg_name (i := 9) sc_law.nd rfl (Or.inl rfl)) (fun _ _ _ _ _ => pts_nil) (fun _ _ _ _ _ => by exact pe_tup (pa_cons (pv 9) (pa_cons (pe_callTy (T := "list") call_list_of (by rfl) B.list (by decide +kernel) (pa_cons (pe_dget hu (pv 4) (pv 9) (fun _ _ => rfl)) pa_nil)) pa_nil))))) pa_nil)))
        (pss_cons (ps_par (i := 7) (j := 8) rfl sc_law.nd rfl rfl (by decide) rfl rfl (pa_cons (pe_make MC GC r8 rfl TK.g bC .nil pass0 (pa_cons (pv 5) (pa_cons (pv 6) pa_nil))) (pa_cons (pe_call Gmn hr rfl Dmn.g Dmn.F.kp Dmn.b .nil pass0 (pa_cons (pv 2) (pa_cons (pv 3) (pa_cons (pe_make MT GT r6 rfl TT.g bT .nil pass0 (pa_cons (pv 3) pa_nil)) pa_nil)))) pa_nil)) (by rfl))
        (pss_cons (ps_for PassesOwn.never rfl (pi_list (pe_callTy (T := "list") (call_listD rfl) (by rfl) B.list (by decide +kernel) (pa_cons (pv 6) pa_nil))) (pg_name (i := 9) sc_law.nd rfl (.inl rfl))
          (pss_one (ps_asg pe_int (pg_sub (pe_dget hu (pv 6) (pv 9) (fun _ _ => rfl)) pe_int set_list))))
        (pss_cons (ps_expr (pe_dclear (pv 6)))
        (pss_cons (ps_par (i := 10) (j := 11) rfl sc_law.nd rfl rfl (by decide) rfl rfl (pa_cons (pe_make MC GCN r8 rfl TK.g bC1 rC1 pass0 (pa_cons (pv 5) pa_nil)) (pa_cons (pe_make MC GC r8 rfl TK.g bC .nil pass0 (pa_cons (pv 5) (pa_cons pe_dnewK pa_nil))) pa_nil)) (by rfl))
        (pss_cons (ps_if (PW.pt (pw_or (pt_cmpR (op_neC GTe mT.m NC.ne NC.ob r3 mT.b pass0) (pe_fld (pv 7) rfl) (pv 5) (nomark _)) (pw_or1 (pt_cmpR (op_neD h64) (pe_meth (pv 10) TK.cl mOn.m GOn r7 mOn.b .nil pass0 (pa_cons (pv 8) (pa_cons pe_str pa_nil))) (pe_meth (pv 11) TK.cl mOn.m GOn r7 mOn.b .nil pass0 (pa_cons (pv 8) (pa_cons pe_str pa_nil))) (nomark _))))) (pss_one (ps_ret pe_bl)) pss_nil)
        (pss_one (ps_for PassesOwn.never rfl (pi_list (pe_op op_cat (pe_lst (pa_cons pe_str pa_nil)) (pe_lc (own := [("_law_row", 13)]) (g := gName 13) (tt := tYes) (te := tOp (rIxT K) (tVar 13) (tC (.int 0))) rfl sc_law.nd (pi_list (pv 3)) (blkOk_by (N := nLaw) (sc := defScope s_law) (by decide +kernel))
            (fun _ _ _ _ _ => pg_name (i := 13) sc_law.nd rfl (Or.inl rfl)) (fun _ _ _ _ _ => pts_nil) (fun _ _ _ _ _ => by exact pe_ix ix_tup (pv 13) pe_int (fun _ _ => rfl))))) (pg_name (i := 12) sc_law.nd rfl (.inl rfl))
          (pss_one (ps_if (pt_not (pt_val (pe_call Gbx hr rfl Dbx.g Dbx.F.kp Dbx.b .nil pass0 (pa_cons (pv 7) (pa_cons (pv 8) (pa_cons (pv 3) (pa_cons (pv 4) (pa_cons (pv 12) pa_nil)))))))) (pss_one (ps_ret pe_bl)) pss_nil))))))))))))))
      (pss_one (ps_ret pe_bl)), ?_⟩
    refine ⟨3, rfl, by decide, by decide, ?_⟩
    refine for_range (lo := 0) (n := (3 : Int).toNat) (fun i σ H' => ∃ v1 v2 v3 v4 v5 v6 v7 v8 v9 v10 v11 v12 v13 : Option V, σ = [some (.ref a0), v1, v2, v3, v4, v5, v6, v7, v8, v9, v10, v11, v12, v13] ∧ SqL K H' a0 (ns.map V.int)) ⟨_, _, _, _, _, _, _, _, _, _, _, _, _, rfl, hS⟩ ?_ ?_
    rotate_left
    · rintro σ H' ⟨_, _, _, _, _, _, _, _, _, _, _, _, _, rfl, _⟩
      exact hq _
    rintro i_ σ H1 hi ⟨v1, v2, v3, v4, v5, v6, v7, v8, v9, v10, v11, v12, v13, rfl, hS1⟩
    have hi3 : i_ < 3 := hi
    refine ⟨_, rfl, _, rfl, a0, ns, _, rfl, hS1, by omega, by omega, fun a x y ha hx hy hy1 => ?_⟩
    have st0 : Stm (upd H1 a (.lst [.int x, .int y, .int 0])) a 0 := ⟨x, y, 0, upd_same, hx, hy, hy1, by decide, by decide⟩
    have S2 : Same H1 (upd H1 a (.lst [.int x, .int y, .int 0])) := Same.new ha
    generalize upd H1 a (.lst [.int x, .int y, .int 0]) = H2 at st0 S2
    refine ⟨_, rfl, a, 0, rfl, st0, by decide, fun tq p d as rs L g H3 np etq hp hrows hv hl13 hsh hRg hok hL4 hnd sb3 st3 => ?_⟩
    refine ⟨tq, _, rfl, sqT etq, rfl, _, _, rfl, _, _, rfl, rfl, ?_⟩
    have S3 : Same H1 H3 := smb S2 ha sb3
    have hL3 : RowsL H3 p rs := ⟨as, hp, hrows⟩
    have htop : ("top" : Str) ∉ L := fun hm => by
      obtain ⟨_, r, hr', _⟩ := hok _ hm
      exact top_not hv (rowOf_in hr')
    clear etq sb3 st0 S2
    -- the tree
    refine ⟨_, rfl, fun t dt nt ndt _ => ⟨t, dt, p, as, rs, rfl, upd_same, .inr (mk_same0 (C := C) nt ndt _ _ hp), (hrows.same (mk_same0 (C := C) nt ndt)).seq, by omega, hv, fun H4 sb4 ht => ⟨rfl, ?_⟩⟩⟩
    have s4 := mk_same nt ndt sb4
    have S4 := S3.trans s4
    have st4 := st3.same s4
    have hL4' := hL3.same s4
    have hRg4 := hRg.same s4
    clear nt ndt sb4 s4 st3 hRg hL3
    -- the ranges in lists
    obtain ⟨ad, d1, d2⟩ := id hRg4
    refine ⟨d, _, d1, trivial, fun od => ?_⟩
    obtain ⟨Hl, El⟩ : ∃ Hx, Hx = upd H4 d (.frz od (.dK (kvX (fun z => V.ref (ad z)) L))) := ⟨_, rfl⟩
    have lk : Hl d = some (.frz od (.dK (kvX (fun z => V.ref (ad z)) L))) := by rw [El]; exact upd_same
    have keep : ∀ b o, H4 b = some o → b ≠ d → Hl b = some o := fun b o e n => by rw [El, upd_ne n]; exact e
    have back : ∀ H', Same Hl H' → Same H4 (upd H' d (.dK (kvX (fun z => V.ref (ad z)) L))) := fun H' s b o e => by
      by_cases q : b = d
      · rw [q, upd_same, ← e, q]; exact d1.symm
      · rw [upd_ne q]; exact s _ _ (keep b o e q)
    have free : ∀ b, Hl b = none → H4 b = none := fun b e => by
      rw [El] at e
      by_cases q : b = d
      · rw [q, upd_same] at e; cases e
      · rw [upd_ne q] at e; exact e
    rw [← El]
    clear El
    refine ⟨_, rfl, d, od, rfl, .inl ⟨_, lk, fun D1 hD1 => ?_⟩⟩
    refine lc_it (walk_keys (d := d) (o := od) (kvs := kvX (fun z => V.ref (ad z)) L)) (fun i H' => Same Hl H' ∧ ∃ (ps : List Addr) (a2 : Str → Addr), H' D1 = some (.lst (ps.map V.ref)) ∧ ps.length ≤ i ∧ Paired (fun q kv => H' q = some (.tup [kV kv.1, kv.2])) ps (kvX (fun z => V.ref (a2 z)) (L.take i)) ∧ ∀ z ∈ L.take i, H' (a2 z) = some (.lst (rgV (g z))) ∧ Hl (a2 z) = none ∧ a2 z ≠ D1)
      ⟨Same.new hD1, [], fun _ => 0, upd_same, Nat.zero_le _, .nil, fun z hz => by simp at hz⟩ (fun i H' _ m => m.1 _ _ lk) ?_ ?_
    · rintro i x H5 H6 hi6 ⟨s5, ps, a2, e5, lps, pa, al⟩ ⟨rfl, k', w', hk', rfl⟩
      obtain ⟨z, ez, hz⟩ := kvX_at hk'
      cases ez
      have hzm := List.mem_of_getElem? hz
      have hiL : i < L.length := (List.getElem?_eq_some_iff.mp hz).1
      have hzn : z ∉ L.take i := fun hm => by
        have n1 : (L.take (i + 1)).Nodup := List.Nodup.sublist (List.take_sublist _ _) hnd
        rw [take_more hz] at n1
        exact (List.nodup_append.mp n1).2.2 z hm z (List.mem_singleton.mpr rfl) rfl
      have dg : DGet H6 d (.str z) (some (.ref (ad z))) := .inl ⟨_, .inr z, .inr ⟨od, s5 _ _ lk⟩, rfl, (valV_kvX (fun z => V.ref (ad z)) hzm).symm⟩
      have eg : H6 (ad z) = some (.tup (rgV (g z))) := s5 _ _ (keep _ _ (d2 z hzm) fun e => by have := d2 z hzm; rw [e, d1] at this; cases this)
      refine ⟨rfl, tYes_if ⟨_, rfl, _, rfl, _, rfl, d, _, rfl, dg, ad z, rgV (g z), rfl, .inr (sqT eg), fun lq hlq => ⟨(by show 2 ≤ sizeLine; decide), fun tp htp => ?_⟩⟩⟩
      have s7 : Same H6 (upd H6 lq (.lst (rgV (g z)))) := Same.new hlq
      have e7 : (upd H6 lq (.lst (rgV (g z)))) lq = some (.lst (rgV (g z))) := upd_same
      generalize upd H6 lq (.lst (rgV (g z))) = H7 at s7 e7 htp ⊢
      have s8 : Same H7 (upd H7 tp (.tup [kV (.inr z), V.ref lq])) := Same.new htp
      have e8 : (upd H7 tp (.tup [kV (.inr z), V.ref lq])) tp = some (.tup [kV (.inr z), V.ref lq]) := upd_same
      generalize upd H7 tp (.tup [kV (.inr z), V.ref lq]) = H8 at s8 e8 ⊢
      have s68 := s7.trans s8
      have kp : ∀ b o, b ≠ D1 → H8 b = some o → (upd H8 D1 (.lst (ps.map V.ref ++ [V.ref tp]))) b = some o := fun b o n e => by rw [upd_ne n]; exact e
      have tD : ∀ {q : Addr} {xs : List V}, H8 q = some (.tup xs) → q ≠ D1 := fun {q xs} e n => by rw [n, s68 _ _ e5] at e; cases e
      have lD : lq ≠ D1 := (ne_of_none e5 hlq).symm
      refine ⟨_, s68 _ _ e5, small1000 (by rw [List.length_map]; omega), fun o' ob eb => kp _ _ (ne_of_none eb hD1) (s68 _ _ (s5 _ _ eb)), ps ++ [tp], fun y => if y = z then lq else a2 y, by rw [upd_same, List.map_append]; rfl, by rw [List.length_append, List.length_singleton]; omega, ?_, ?_⟩
      · have ek : kvX (fun y => V.ref (if y = z then lq else a2 y)) (L.take (i + 1)) = kvX (fun y => V.ref (a2 y)) (L.take i) ++ [(.inr z, V.ref lq)] := by
          rw [take_more hz]
          unfold kvX
          rw [List.map_append, List.map_cons, List.map_nil]
          dsimp only
          rw [if_pos rfl]
          congr 1
          exact List.map_congr_left fun y hy => by rw [if_neg (fun e : y = z => hzn (e ▸ hy))]
        rw [ek]
        exact paired_snoc (Paired.mapP pa fun q kv e => kp _ _ (tD (s68 _ _ e)) (s68 _ _ e)) (kp _ _ (tD e8) e8)
      · intro y hy
        rw [take_more hz] at hy
        by_cases q : y = z
        · dsimp only
          rw [if_pos q, q]
          exact ⟨kp _ _ lD (s8 _ _ e7), s5.free hlq, lD⟩
        · dsimp only
          rw [if_neg q]
          rcases List.mem_append.mp hy with hy | hy
          · obtain ⟨q1, q2, q3⟩ := al y hy
            exact ⟨kp _ _ q3 (s68 _ _ q1), q2, q3⟩
          · exact absurd (List.mem_singleton.mp hy) q
    rintro H5 ⟨s5, ps, a2, e5, lps, pa, al⟩
    have ek : (kvX (fun z => V.ref (ad z)) L).length = L.length := by unfold kvX; rw [List.length_map]
    rw [ek, List.take_length] at pa al
    refine ⟨s5 _ _ lk, ?_⟩
    have s6 := back _ s5
    have nDd : D1 ≠ d := (ne_of_none lk hD1).symm
    have ku : ∀ b o, b ≠ d → H5 b = some o → (upd H5 d (.dK (kvX (fun z => V.ref (ad z)) L))) b = some o := fun b o n e => by rw [upd_ne n]; exact e
    have td : ∀ {q : Addr} {o : HO}, H5 q = some o → (∀ o1 u1, o ≠ .frz o1 u1) → q ≠ d := fun {q o} e n c => by rw [c, s5 _ _ lk] at e; exact n _ _ (Option.some.inj e).symm
    have e6 := ku _ _ nDd e5
    have pa6 := Paired.mapP pa fun q kv e => ku _ _ (td e (fun _ _ z => nomatch z)) e
    have al6 : ∀ z ∈ L, (upd H5 d (.dK (kvX (fun z => V.ref (ad z)) L))) (a2 z) = some (.lst (rgV (g z))) ∧ H4 (a2 z) = none := fun z hz => ⟨ku _ _ (td (al z hz).1 (fun _ _ z => nomatch z)) (al z hz).1, free _ (al z hz).2.1⟩
    generalize upd H5 d (.dK (kvX (fun z => V.ref (ad z)) L)) = H6 at s6 e6 pa6 al6 ⊢
    clear s5 e5 pa al lk keep back free nDd ku td hD1
    refine ⟨D1, ps, kvX (fun z => V.ref (a2 z)) L, rfl, SqL.of e6, Paired.mapP pa6 fun q kv e => sqT e, fun gv hgv => ?_⟩
    rw [show mergeK [] (kvX (fun z => V.ref (a2 z)) L) = kvX (fun z => V.ref (a2 z)) L from merge_kvX L [] hnd]
    have s7 : Same H6 (upd H6 gv (.dK (kvX (fun z => V.ref (a2 z)) L))) := Same.new hgv
    have e7 : (upd H6 gv (.dK (kvX (fun z => V.ref (a2 z)) L))) gv = some (.dK (kvX (fun z => V.ref (a2 z)) L)) := upd_same
    generalize upd H6 gv (.dK (kvX (fun z => V.ref (a2 z)) L)) = H7 at s7 e7 ⊢
    have s47 := s6.trans s7
    have al7 : ∀ z ∈ L, H7 (a2 z) = some (.lst (rgV (g z))) ∧ H4 (a2 z) = none := fun z hz => ⟨s7 _ _ (al6 z hz).1, (al6 z hz).2⟩
    have gvn : H4 gv = none := s6.free hgv
    clear s6 e6 pa6 al6 hgv s7
    have ht7 := ht.same s47
    have st7 := st4.same s47
    have hL7 := hL4'.same s47
    -- counts and a meaning
    refine ⟨_, rfl, _, rfl, ?_⟩
    dsimp only [tNil]
    refine fun c cdx nc ncd _ => ⟨c, cdx, t, gv, rs, L, g, rfl, upd_same, ht7.same (mk_same0 (C := CC) nc ncd), RgsAt.same ⟨a2, e7, fun z hz => .inr (al7 z hz).1⟩ (mk_same0 (C := CC) nc ncd), by omega, hok, fun H8 sb8 hc8 => ⟨rfl, ?_⟩⟩
    have s8 := mk_same nc ncd sb8
    refine ⟨_, rfl, _, rfl, _, rfl, ?_⟩
    dsimp only [tNil]
    have ht8 := ht7.same s8
    have st8 := st7.same s8
    have hL8 := hL7.same s8
    obtain ⟨as8, hp8, hrows8⟩ := id hL8.ex
    refine fun t2 dt2 nt ndt _ => ⟨t2, dt2, p, as8, rs, rfl, upd_same, .inr (mk_same0 (C := C) nt ndt _ _ hp8), (hrows8.same (mk_same0 (C := C) nt ndt)).seq, by omega, hv, fun H9 sb9 ht29 => ⟨rfl, ?_⟩⟩
    have s9 := mk_same nt ndt sb9
    refine ⟨a, p, t2, _, rs, rfl, st8.same s9, by decide, hL8.same s9, np, ht29, fun m v H10 hm sb10 _ st10 => ?_⟩
    refine ⟨_, _, rfl, ?_⟩
    have st9 := st8.same s9
    have kl10 : KL H9 H10 := KL.sb st9 sb10
    have gva : gv ≠ a := fun e => by rw [e] at gvn; obtain ⟨_, _, _, q, _⟩ := st4; rw [gvn] at q; cases q
    have e10 : H10 gv = some (.dK (kvX (fun z => V.ref (a2 z)) L)) := sb10 _ _ gva (s9 _ _ (s8 _ _ e7))
    have hc10 : CntAt K C CC H10 c t rs (pairR rs L g) := (hc8.same s9).kl kl10
    have ht10 : TreeAt C H10 t rs := (ht8.same s9).kl kl10
    have al10 : ∀ z ∈ L, H10 (a2 z) = some (.lst (rgV (g z))) ∧ H4 (a2 z) = none := fun z hz => by
      obtain ⟨q1, q2⟩ := al7 z hz
      have na : a2 z ≠ a := fun e => by rw [e] at q2; obtain ⟨_, _, _, q, _⟩ := st4; rw [q2] at q; cases q
      exact ⟨sb10 _ _ na (s9 _ _ (s8 _ _ q1)), q2⟩
    have SB10 : SB a H4 H10 := ((SB.of s47).trans ((SB.of s8).trans (SB.of s9))).trans sb10
    have hL10 : RowsL H10 p rs := (hL8.same s9).sbk np st9 sb10
    clear e7 al7 ht7 st7 hL7 sb8 hc8 s8 nc ncd ht8 st8 hL8 hp8 hrows8 nt ndt sb9 ht29 s9 sb10 st9 kl10 s47
    -- the lists change, the dict is emptied
    refine ⟨_, rfl, gv, _, rfl, .inl e10, fun kl hkl => ?_⟩
    have s11 := Same.new (o := .lst ((kvX (fun z => V.ref (a2 z)) L).map fun kv => kV kv.1)) hkl
    have e11 : (upd H10 kl (.lst ((kvX (fun z => V.ref (a2 z)) L).map fun kv => kV kv.1))) kl = some (.lst (L.map V.str)) := by
      rw [upd_same]
      unfold kvX
      rw [List.map_map]
      rfl
    generalize upd H10 kl (.lst ((kvX (fun z => V.ref (a2 z)) L).map fun kv => kV kv.1)) = H11 at s11 e11
    have nkl : ∀ z ∈ L, kl ≠ a2 z := fun z hz e => by have q := (al10 z hz).1; rw [← e, hkl] at q; cases q
    refine ⟨kl, rfl, ⟨_, SqL.of e11⟩, ?_⟩
    refine for_list (K := K) (a := kl) (xs := L.map V.str) (fun i σ H' => ∃ v9 : Option V, σ = [some (.ref a0), some (.int (0 + (i_ : Int))), some (.ref a), some (.ref p), some (.ref d), some (.ref t), some (.ref gv), some (.ref c), some (.ref m), v9, v10, v11, v12, v13] ∧ (∀ b o, H11 b = some o → (∀ z ∈ L, b ≠ a2 z) → H' b = some o) ∧ ∀ z ∈ L, ∃ xs, H' (a2 z) = some (.lst xs) ∧ xs.length = 2)
      ⟨_, rfl, fun b o e _ => e, fun z hz => ⟨_, s11 _ _ (al10 z hz).1, rfl⟩⟩ (fun i σ H' _ ⟨_, _, k, _⟩ => SqL.of (k _ _ e11 nkl)) ?_ ?_
    · rintro i x σ H12 hx ⟨v9', rfl, k12, l12⟩
      rw [List.getElem?_map] at hx
      obtain ⟨z, hz, rfl⟩ := Option.map_eq_some_iff.mp hx
      have hzm := List.mem_of_getElem? hz
      have gvl : ∀ z ∈ L, gv ≠ a2 z := fun z hz e => by rw [e, (al10 z hz).1] at e10; cases e10
      have dg : DGet H12 gv (.str z) (some (.ref (a2 z))) := .inl ⟨_, .inr z, .inl (k12 _ _ (s11 _ _ e10) gvl), rfl, (valV_kvX (fun z => V.ref (a2 z)) hzm).symm⟩
      obtain ⟨xs, q1, q2⟩ := l12 z hzm
      refine ⟨_, rfl, _, rfl, gv, _, rfl, dg, a2 z, xs, 0, 0, rfl, rfl, q1, by rw [q2]; rfl, ?_⟩
      refine ⟨_, rfl, fun b o e n => by rw [upd_ne (n z hzm)]; exact k12 b o e n, fun y hy => ?_⟩
      by_cases q : a2 y = a2 z
      · exact ⟨_, by rw [q, upd_same], by rw [List.length_set]; exact q2⟩
      · obtain ⟨ys, r1, r2⟩ := l12 y hy
        exact ⟨ys, by rw [upd_ne q]; exact r1, r2⟩
    rintro σ H12 ⟨v9', rfl, k12, l12⟩
    have gvl : ∀ z ∈ L, gv ≠ a2 z := fun z hz e => by rw [e, (al10 z hz).1] at e10; cases e10
    have e12 := k12 _ _ (s11 _ _ e10) gvl
    have kl12 : KL H10 H12 := fun b o e no => k12 _ _ (s11 _ _ e) fun z hz q => by
      rw [q, (al10 z hz).1] at e
      exact no _ (Option.some.inj e).symm
    have old : SB a H4 H12 := fun b o n e => k12 _ _ (s11 _ _ (SB10 b o n e)) fun z hz q => by
      rw [q, (al10 z hz).2] at e
      cases e
    refine ⟨_, rfl, .inr (.inr (.inl ⟨rfl, .inl ⟨_, e12⟩⟩)), gv, _, rfl, rfl, e12, ?_⟩
    have hc13 := clr_cnt (hc10.kl kl12) htop e12
    have hm13 := clr_mv (hm.klm kl12) e12
    have ht13 := clr_tree (ht10.kl kl12) e12
    have old13 : SB a H4 (upd H12 gv (.dK [])) := fun b o n e => by
      rw [upd_ne (ne_of_none e gvn)]
      exact old b o n e
    generalize upd H12 gv (.dK []) = H13 at hc13 hm13 ht13 old13 ⊢
    clear e12 kl12 old k12 l12 gvl e11 s11 nkl hkl al10 e10 hc10 ht10 hm SB10 gva hL10
    have hRg13 : RgsT H13 d L g := by
      have na : ∀ {b : Addr} {o : HO}, H4 b = some o → (∀ xs, o ≠ .lst xs) → b ≠ a := fun {b o} e n q => by
        obtain ⟨_, _, _, r, _⟩ := st4
        rw [q, r] at e
        exact n _ (Option.some.inj e).symm
      exact ⟨ad, old13 _ _ (na d1 (fun _ e => nomatch e)) d1, fun z hz => old13 _ _ (na (d2 z hz) (fun _ e => nomatch e)) (d2 z hz)⟩
    have hL13 : RowsL H13 p rs := hL4'.sbk np st4 old13
    -- plain and bare
    refine ⟨_, rfl, ?_⟩
    dsimp only [tNil]
    refine fun c2 cdx2 nc2 ncd2 _ => ⟨c2, cdx2, t, rs, rfl, upd_same, ht13.same (mk_same0 (C := CC) nc2 ncd2), fun H14 sb14 hc14 => ⟨rfl, ?_⟩⟩
    have s14 := mk_same nc2 ncd2 sb14
    refine ⟨_, rfl, fun ed hed => ?_⟩
    dsimp only [tNil]
    have s15 : Same H14 (upd H14 ed (.dK [])) := Same.new hed
    have e15 : (upd H14 ed (.dK [])) ed = some (.dK []) := upd_same
    generalize upd H14 ed (.dK []) = H15 at s15 e15
    have s135 := s14.trans s15
    refine fun c3 cdx3 nc3 ncd3 _ => ⟨c3, cdx3, t, ed, rs, [], (fun _ => noI), rfl, upd_same, (ht13.same s135).same (mk_same0 (C := CC) nc3 ncd3), RgsAt.same ⟨fun _ => 0, e15, (fun z hz => by cases hz)⟩ (mk_same0 (C := CC) nc3 ncd3), by decide, (fun z hz => by cases hz), fun H16 sb16 hc16 => ⟨rfl, ?_⟩⟩
    have s16 := mk_same nc3 ncd3 sb16
    refine ⟨_, _, rfl, ?_⟩
    have T16 := s135.trans s16
    have hcm16 := hc13.same T16
    have hm16 := hm13.same T16
    have ht16 := ht13.same T16
    have hc2' := (hc14.same s15).same s16
    have old16 : SB a H4 H16 := old13.trans (SB.of T16)
    have hRg16 := hRg13.same T16
    have hL16 := hL13.same T16
    clear s14 s15 e15 s135 sb14 sb16 hc14 s16 hed nc2 ncd2 nc3 ncd3 T16 hc13 hm13 ht13 old13 hRg13 hL13
    obtain ⟨cdx', ck, c1, _⟩ := id hcm16.ex
    obtain ⟨tdx, _, _, _, _, _, t1, _⟩ := id ht16.ex
    obtain ⟨dx2, k2, c21, _⟩ := id hc2'.ex
    obtain ⟨dx3, k3, c31, _⟩ := id hc16.ex
    have noN : ∀ {k : Addr} {n : Str}, n ≠ ("tree" : Str) → n ≠ ("pairs" : Str) → (cf t k).lookup n = none := fun {k n} a b => by
      unfold cf
      rw [lookup_putF, if_neg b, lookup_putF, if_neg a]
      rfl
    refine ⟨_, rfl, c, CC, cdx', _, _, rfl, c1, TK.cl, TK.nt, cf_t _ _, _, rfl, t, tdx, _, .ref C, rfl, t1, .ins t1, nfC, t, _, rs, rfl, ht16, .inl ⟨t, rs, rfl, ht16, _, rfl, _, rfl, ?_⟩⟩
    refine iteF' (by simp) ?_
    have topP : ("top" : Str) ∈ plc rs := List.mem_cons_self ..
    refine ⟨_, rfl, c2, dx2, _, rfl, c21, noN (by decide +kernel) (by decide +kernel), _, rfl, c2, m, ("top" : Str), rs, _, v, rfl, ⟨⟨t, t2, hc2', hm16⟩⟩, topP, fun b1 H17 s17 hb1 => ?_⟩
    refine ⟨_, rfl, c3, dx3, _, rfl, s17 _ _ c31, noN (by decide +kernel) (by decide +kernel), _, rfl, c3, m, ("top" : Str), rs, _, v, rfl, ⟨⟨t, t2, hc16.same s17, hm16.same s17⟩⟩, topP, fun b2 H18 s18 hb2 => ?_⟩
    refine rd_neRg (sqT_same hb1 s18) hb2 ⟨_, rfl, iteF ?_⟩
    have s178 := s17.trans s18
    have hcm18 : CMZ K C CM CC H18 c m rs (pairR rs L g) v := ⟨⟨t, t2, hcm16.same s178, hm16.same s178⟩⟩
    have hRg18 := hRg16.same s178
    have hL18 := hL16.same s178
    have old18 : SB a H4 H18 := old16.trans (SB.of s178)
    clear hb1 hb2 s17 s18 s178 c1 c21 c31 t1 hcm16 hm16 ht16 hc2' hc16 hRg16 hL16 old16
    -- box by box
    obtain ⟨as18, hp18, hrows18⟩ := id hL18.ex
    refine ⟨(by show 1 ≤ sizeLine; decide), fun l1 hl1 => ?_⟩
    have s19 : Same H18 (upd H18 l1 (.lst [V.str ("top" : Str)])) := Same.new hl1
    have e19 : (upd H18 l1 (.lst [V.str ("top" : Str)])) l1 = some (.lst [V.str ("top" : Str)]) := upd_same
    generalize upd H18 l1 (.lst [V.str ("top" : Str)]) = H19 at s19 e19
    refine ⟨_, rfl, p, rfl, ⟨_, SqL.of (s19 _ _ hp18)⟩, fun D2 hD2 => ?_⟩
    refine lc_list (K := K) (a := p) (xs := as18.map V.ref) (fun i H' => Same H19 H' ∧ H' D2 = some (.lst (((rs.take i).map (·.nm)).map V.str))) ⟨Same.new hD2, upd_same⟩ (fun i H' _ m => SqL.of (m.1 _ _ (s19 _ _ hp18))) ?_ ?_
    · rintro i x H20 hx ⟨s20, e20⟩
      obtain ⟨ra, r, rfl, hra, hr', e0⟩ := rows_at hrows18 hx
      refine ⟨rfl, tYes_if ⟨_, rfl, ra, _, _, _, rfl, rfl, sqT (s20 _ _ (s19 _ _ e0)), atI0 _ _ _ _, _, e20, small1000 (by rw [List.length_map, List.length_map, List.length_take]; omega), fun b o eb => ?_, ?_⟩⟩
      · rw [upd_ne (fun y => by rw [y, hD2] at eb; cases eb)]
        exact s20 _ _ eb
      · rw [upd_same, take_more hr', List.map_append, List.map_append]; rfl
    rintro H20 ⟨s20, e20⟩
    rw [List.length_map, hrows18.len, List.take_length] at e20
    refine ⟨l1, D2, _, _, rfl, rfl, s20 _ _ e19, e20, szl (by rw [List.length_map, List.length_map]; show 1 + _ ≤ 1000; omega), fun bl hbl => ?_⟩
    have s21 := Same.new (o := .lst ([V.str ("top" : Str)] ++ (rs.map (·.nm)).map V.str)) hbl
    have e21 : (upd H20 bl (.lst ([V.str ("top" : Str)] ++ (rs.map (·.nm)).map V.str))) bl = some (.lst ((plc rs).map V.str)) := upd_same
    generalize upd H20 bl (.lst ([V.str ("top" : Str)] ++ (rs.map (·.nm)).map V.str)) = H21 at s21 e21
    have s1821 := s19.trans (s20.trans s21)
    refine ⟨bl, rfl, ⟨_, SqL.of e21⟩, ?_⟩
    refine for_list (K := K) (a := bl) (xs := (plc rs).map V.str) (fun i σ H' => ∃ v12 : Option V, σ = [some (.ref a0), some (.int (0 + (i_ : Int))), some (.ref a), some (.ref p), some (.ref d), some (.ref t), some (.ref gv), some (.ref c), some (.ref m), v9', some (.ref c2), some (.ref c3), v12, v13] ∧ Same H21 H') ⟨_, rfl, Same.refl _⟩ (fun i σ H' _ ⟨_, _, s⟩ => SqL.of (s _ _ e21)) ?_ ?_
    · rintro i x σ H22 hx ⟨v12', rfl, s22⟩
      rw [List.getElem?_map] at hx
      obtain ⟨z, hz, rfl⟩ := Option.map_eq_some_iff.mp hx
      have s1822 := s1821.trans s22
      refine ⟨_, rfl, _, rfl, _, rfl, _, rfl, _, rfl, c, m, p, d, z, rs, L, g, v, rfl, hcm18.same s1822, hL18.same s1822, hl13, hsh, hRg18.same s1822, fun z hz => (hok z hz).1, List.mem_of_getElem? hz, fun H23 s23 => ⟨_, rfl, ?_⟩⟩
      exact iteF' rfl ⟨_, rfl, s22.trans s23⟩
    rintro σ H22 ⟨v12', rfl, s22⟩
    have fin : Same H1 H22 := (smb S4 ha (old18.trans (SB.of (s1821.trans s22))))
    exact ⟨_, _, _, _, _, _, _, _, _, _, _, _, _, rfl, fin.seq hS1⟩
end
end Ts

set_option maxRecDepth 100000
set_option maxHeartbeats 8000000
namespace Ts
open PySem L2
theorem defAt {K : PySem.W.Frag} {h : Heap} {mg : Str → Option Value} (X : K.In h) (G : h.Ns mainGlobals mg) {x : Str} {st : Stmt} {ps : List Str} {f : Addr} {oc : Value} {od an : Option Addr} {sl : Array (Option Value)} {kV dc pm cd ct : Value}
    (a : PySem.W.nsIn K mainGlobals x = some (some (.ref f))) (l : K.lookup f = some ⟨oc, od, .func (PySem.W.fnOf x x (defArgs st) (defBody st) (defScope st) .none kV dc pm an cd ct), sl⟩) (c : PySem.W.codeIn K cd x = true) (k : PySem.W.keepIn K (.ref f) = true)
    (hb : ∀ (kV doc pm : Value) (an : Option Addr) (cdv ct : Value) (us : List Value), us.length = ps.length → bindArgs (PySem.W.fnOf x x (defArgs st) (defBody st) (defScope st) .none kV doc pm an cdv ct) ⟨us, []⟩ = pure (ps.zip us)) :
    ∃ D : DefAt K mg x st ps, ∀ (s : Shared) (us : List Value), us.length = ps.length → BindsTo s D.fd ⟨us, []⟩ (ps.zip us) :=
  ⟨⟨f, _, fun_mk l c k, (fun_mk l c k).binds hb, PySem.W.mg_of X G a⟩, fun _ us hu => .of_eq (hb _ _ _ _ _ _ us hu)⟩
theorem methAt {K : PySem.W.Frag} {C : Addr} {x q : Str} {st : Stmt} {ps : List Str} {f : Addr} {oc : Value} {od an : Option Addr} {sl : Array (Option Value)} {kV dc pm cd ct : Value}
    (a : PySem.W.findIn K (.ref C) x = some (some (.ref f))) (i : PySem.W.isFn K (.ref f) = true) (l : K.lookup f = some ⟨oc, od, .func (PySem.W.fnOf x q (defArgs st) (defBody st) (defScope st) .none kV dc pm an cd ct), sl⟩) (c : PySem.W.codeIn K cd q = true) (k : PySem.W.keepIn K (.ref f) = true)
    (hb : ∀ (kV doc pm : Value) (an : Option Addr) (cdv ct : Value) (us : List Value), us.length = ps.length → bindArgs (PySem.W.fnOf x q (defArgs st) (defBody st) (defScope st) .none kV doc pm an cdv ct) ⟨us, []⟩ = pure (ps.zip us)) :
    Nonempty (MethAt K C x q st ps) :=
  ⟨⟨f, _, fun_mk l c k, (fun_mk l c k).binds hb, ⟨a, i, k⟩⟩⟩
theorem kit_no {K : PySem.W.Frag} {C : Addr} {T : String} (iC : PySem.W.isClsIn K C = true) (tC : PySem.W.typeIn K (.ref C) = some (.type "type")) (sb : PySem.W.subIn K (.type T) (.ref C) = some false) : PySem.W.kitOne K (.type T) (.ref C) = some false := by
  unfold PySem.W.kitOne
  rw [if_neg (by simp)]
  have e : ((PySem.W.clsIn K C).isSome && PySem.W.typeIn K (.ref C) == some (.type "type")) = true := by
    rw [show (PySem.W.clsIn K C).isSome = true from iC, tC]
    simp
  show (if ((PySem.W.clsIn K C).isSome && PySem.W.typeIn K (.ref C) == some (.type "type")) = true then PySem.W.subIn K (.type T) (.ref C) else none) = some false
  rw [if_pos e]
  exact sb
theorem kit_noR {K : PySem.W.Frag} {C D : Addr} (ne : ¬ D = C) (iC : PySem.W.isClsIn K C = true) (tC : PySem.W.typeIn K (.ref C) = some (.type "type")) (sb : PySem.W.subIn K (.ref D) (.ref C) = some false) : PySem.W.kitOne K (.ref D) (.ref C) = some false := by
  unfold PySem.W.kitOne
  rw [if_neg (by simpa using ne)]
  have e : ((PySem.W.clsIn K C).isSome && PySem.W.typeIn K (.ref C) == some (.type "type")) = true := by
    rw [show (PySem.W.clsIn K C).isSome = true from iC, tC]
    simp
  show (if ((PySem.W.clsIn K C).isSome && PySem.W.typeIn K (.ref C) == some (.type "type")) = true then PySem.W.subIn K (.ref D) (.ref C) else none) = some false
  rw [if_pos e]
  exact sb
theorem kit_me {K : PySem.W.Frag} {C : Addr} : PySem.W.kitOne K (.ref C) (.ref C) = some true := by
  unfold PySem.W.kitOne
  rw [if_pos (by simp)]
theorem bothAll {K : PySem.W.Frag} {h : Heap} {mg : Str → Option Value} (X : K.In h) (G : h.Ns mainGlobals mg) {C : Addr} {CM : Addr} {f0 : Addr} {oc0 kV0 dc0 pm0 cd0 ct0 : Value} {od0 an0 : Option Addr} {sl0 : Array (Option Value)} {f1 : Addr} {oc1 kV1 dc1 pm1 cd1 ct1 : Value} {od1 an1 : Option Addr} {sl1 : Array (Option Value)} {f2 : Addr} {oc2 kV2 dc2 pm2 cd2 ct2 : Value} {od2 an2 : Option Addr} {sl2 : Array (Option Value)} {f3 : Addr} {oc3 kV3 dc3 pm3 cd3 ct3 : Value} {od3 an3 : Option Addr} {sl3 : Array (Option Value)} {f4 : Addr} {oc4 kV4 dc4 pm4 cd4 ct4 : Value} {od4 an4 : Option Addr} {sl4 : Array (Option Value)} {f5 : Addr} {oc5 kV5 dc5 pm5 cd5 ct5 : Value} {od5 an5 : Option Addr} {sl5 : Array (Option Value)} {f6 : Addr} {oc6 kV6 dc6 pm6 cd6 ct6 : Value} {od6 an6 : Option Addr} {sl6 : Array (Option Value)} {mf0 : Addr} {moc0 mkV0 mdc0 mpm0 mcd0 mct0 : Value} {mod0 man0 : Option Addr} {msl0 : Array (Option Value)} {Td Te : Addr} {odT odE : Option Addr} {itT itE : Array Value} {nT nE : Nat} {slT slE : Array (Option Value)} {mf1 : Addr} {moc1 mkV1 mdc1 mpm1 mcd1 mct1 : Value} {mod1 man1 : Option Addr} {msl1 : Array (Option Value)} {mf2 : Addr} {moc2 mkV2 mdc2 mpm2 mcd2 mct2 : Value} {mod2 man2 : Option Addr} {msl2 : Array (Option Value)}
    (aC : PySem.W.nsIn K mainGlobals "Tree" = some (some (.ref C)))
    (pg : PySem.W.plainGet K C Str.empty = true)
    (hd : PySem.W.hasDictIn K C = true)
    (po : PySem.W.plainOver K C = true)
    (sa : PySem.W.findIn K (.ref C) "__setattr__" = some (some (.builtin "object.__setattr__")))
    (mk : PySem.W.makesIn K C = true)
    (kc : PySem.W.keepIn K (.ref C) = true)
    (nq : PySem.W.findIn K (.ref C) "quads" = some none)
    (nf : PySem.W.findIn K (.ref C) "folders" = some none)
    (nk : PySem.W.findIn K (.ref C) "kinds" = some none)
    (np : PySem.W.findIn K (.ref C) "prices" = some none)
    (ne : PySem.W.findIn K (.ref C) "__ne__" = some (some (.builtin "object.__ne__")))
    (ob : PySem.W.subIn K (.ref C) (.type "object") = some true)
    (iC : PySem.W.isClsIn K C = true)
    (tC : PySem.W.typeIn K (.ref C) = some (.type "type"))
    (ha : PySem.W.findIn K (.ref C) "__class__" = some (some (.builtin "object.__class__")))
    (hn : PySem.W.specialIn K (.builtin "object.__class__") "__get__" = some (some (.builtin "getset_descriptor.__get__")))
    (htk : PySem.W.takesIn K (.builtin "object.__class__") = some true)
    (hm : PySem.W.mroIn K C (.type "object") = some true)
    (a0 : PySem.W.findIn K (.ref C) "__init__" = some (some (.ref f0))) (i0 : PySem.W.isFn K (.ref f0) = true) (l0 : K.lookup f0 = some ⟨oc0, od0, .func (PySem.W.fnOf "__init__" "Tree.__init__" (defArgs s_Tree_init) (defBody s_Tree_init) (defScope s_Tree_init) .none kV0 dc0 pm0 an0 cd0 ct0), sl0⟩) (c0 : PySem.W.codeIn K cd0 "Tree.__init__" = true) (k0 : PySem.W.keepIn K (.ref f0) = true)
    (a1 : PySem.W.findIn K (.ref C) "__eq__" = some (some (.ref f1))) (i1 : PySem.W.isFn K (.ref f1) = true) (l1 : K.lookup f1 = some ⟨oc1, od1, .func (PySem.W.fnOf "__eq__" "Tree.__eq__" (defArgs s_Tree_eq) (defBody s_Tree_eq) (defScope s_Tree_eq) .none kV1 dc1 pm1 an1 cd1 ct1), sl1⟩) (c1 : PySem.W.codeIn K cd1 "Tree.__eq__" = true) (k1 : PySem.W.keepIn K (.ref f1) = true)
    (a2 : PySem.W.findIn K (.ref C) "__contains__" = some (some (.ref f2))) (i2 : PySem.W.isFn K (.ref f2) = true) (l2 : K.lookup f2 = some ⟨oc2, od2, .func (PySem.W.fnOf "__contains__" "Tree.__contains__" (defArgs s_Tree_contains) (defBody s_Tree_contains) (defScope s_Tree_contains) .none kV2 dc2 pm2 an2 cd2 ct2), sl2⟩) (c2 : PySem.W.codeIn K cd2 "Tree.__contains__" = true) (k2 : PySem.W.keepIn K (.ref f2) = true)
    (a3 : PySem.W.findIn K (.ref C) "folder" = some (some (.ref f3))) (i3 : PySem.W.isFn K (.ref f3) = true) (l3 : K.lookup f3 = some ⟨oc3, od3, .func (PySem.W.fnOf "folder" "Tree.folder" (defArgs s_Tree_folder) (defBody s_Tree_folder) (defScope s_Tree_folder) .none kV3 dc3 pm3 an3 cd3 ct3), sl3⟩) (c3 : PySem.W.codeIn K cd3 "Tree.folder" = true) (k3 : PySem.W.keepIn K (.ref f3) = true)
    (a4 : PySem.W.findIn K (.ref C) "kind" = some (some (.ref f4))) (i4 : PySem.W.isFn K (.ref f4) = true) (l4 : K.lookup f4 = some ⟨oc4, od4, .func (PySem.W.fnOf "kind" "Tree.kind" (defArgs s_Tree_kind) (defBody s_Tree_kind) (defScope s_Tree_kind) .none kV4 dc4 pm4 an4 cd4 ct4), sl4⟩) (c4 : PySem.W.codeIn K cd4 "Tree.kind" = true) (k4 : PySem.W.keepIn K (.ref f4) = true)
    (a5 : PySem.W.findIn K (.ref C) "price" = some (some (.ref f5))) (i5 : PySem.W.isFn K (.ref f5) = true) (l5 : K.lookup f5 = some ⟨oc5, od5, .func (PySem.W.fnOf "price" "Tree.price" (defArgs s_Tree_price) (defBody s_Tree_price) (defScope s_Tree_price) .none kV5 dc5 pm5 an5 cd5 ct5), sl5⟩) (c5 : PySem.W.codeIn K cd5 "Tree.price" = true) (k5 : PySem.W.keepIn K (.ref f5) = true)
    (a6 : PySem.W.findIn K (.ref C) "below" = some (some (.ref f6))) (i6 : PySem.W.isFn K (.ref f6) = true) (l6 : K.lookup f6 = some ⟨oc6, od6, .func (PySem.W.fnOf "below" "Tree.below" (defArgs s_Tree_below) (defBody s_Tree_below) (defScope s_Tree_below) .none kV6 dc6 pm6 an6 cd6 ct6), sl6⟩) (c6 : PySem.W.codeIn K cd6 "Tree.below" = true) (k6 : PySem.W.keepIn K (.ref f6) = true)
    (maC : PySem.W.nsIn K mainGlobals "Meaning" = some (some (.ref CM)))
    (mpg : PySem.W.plainGet K CM Str.empty = true)
    (mhd : PySem.W.hasDictIn K CM = true)
    (mpo : PySem.W.plainOver K CM = true)
    (msa : PySem.W.findIn K (.ref CM) "__setattr__" = some (some (.builtin "object.__setattr__")))
    (mmk : PySem.W.makesIn K CM = true)
    (mkc : PySem.W.keepIn K (.ref CM) = true)
    (mnt : PySem.W.findIn K (.ref CM) "tree" = some none)
    (mnd : PySem.W.findIn K (.ref CM) "default" = some none)
    (mnu : PySem.W.findIn K (.ref CM) "turns" = some none)
    (mnk : PySem.W.findIn K (.ref CM) "known" = some none)
    (mne : PySem.W.findIn K (.ref CM) "__ne__" = some (some (.builtin "object.__ne__")))
    (mob : PySem.W.subIn K (.ref CM) (.type "object") = some true)
    (miC : PySem.W.isClsIn K CM = true)
    (mtC : PySem.W.typeIn K (.ref CM) = some (.type "type"))
    (mha : PySem.W.findIn K (.ref CM) "__class__" = some (some (.builtin "object.__class__")))
    (mhn : PySem.W.specialIn K (.builtin "object.__class__") "__get__" = some (some (.builtin "getset_descriptor.__get__")))
    (mhtk : PySem.W.takesIn K (.builtin "object.__class__") = some true)
    (mhm : PySem.W.mroIn K CM (.type "object") = some true)
    (ma0 : PySem.W.findIn K (.ref CM) "__init__" = some (some (.ref mf0))) (mi0 : PySem.W.isFn K (.ref mf0) = true) (ml0 : K.lookup mf0 = some ⟨moc0, mod0, .func (PySem.W.fnOf "__init__" "Meaning.__init__" (defArgs s_Meaning_init) (defBody s_Meaning_init) (defScope s_Meaning_init) (.ref Td) mkV0 mdc0 mpm0 man0 mcd0 mct0), msl0⟩) (mc0 : PySem.W.codeIn K mcd0 "Meaning.__init__" = true) (mk0 : PySem.W.keepIn K (.ref mf0) = true)
    (mlT : K.lookup Td = some ⟨.type "tuple", odT, .seq itT nT, slT⟩) (mvT : itT.toList = [.ref Te]) (mlE : K.lookup Te = some ⟨.type "tuple", odE, .seq itE nE, slE⟩) (mvE : itE.toList = [])
    (ma1 : PySem.W.findIn K (.ref CM) "value" = some (some (.ref mf1))) (mi1 : PySem.W.isFn K (.ref mf1) = true) (ml1 : K.lookup mf1 = some ⟨moc1, mod1, .func (PySem.W.fnOf "value" "Meaning.value" (defArgs s_Meaning_value) (defBody s_Meaning_value) (defScope s_Meaning_value) .none mkV1 mdc1 mpm1 man1 mcd1 mct1), msl1⟩) (mc1 : PySem.W.codeIn K mcd1 "Meaning.value" = true) (mk1 : PySem.W.keepIn K (.ref mf1) = true)
    (ma2 : PySem.W.findIn K (.ref CM) "states" = some (some (.ref mf2))) (mi2 : PySem.W.isFn K (.ref mf2) = true) (ml2 : K.lookup mf2 = some ⟨moc2, mod2, .func (PySem.W.fnOf "states" "Meaning.states" (defArgs s_Meaning_states) (defBody s_Meaning_states) (defScope s_Meaning_states) .none mkV2 mdc2 mpm2 man2 mcd2 mct2), msl2⟩) (mc2 : PySem.W.codeIn K mcd2 "Meaning.states" = true) (mk2 : PySem.W.keepIn K (.ref mf2) = true) :
    ∃ C : Addr, TxT K mg C ∧ TxN K C ∧ C8.InsC K C ∧ (∃ (f : Addr) (fd : FuncData), Fun K "__init__" "Tree.__init__" s_Tree_init f fd ∧ Mk K C f ∧ Binds K fd ["self", "rows"] []) ∧ Nonempty (MethAt K C "__eq__" "Tree.__eq__" s_Tree_eq ["self", "other"]) ∧ Nonempty (MethAt K C "__contains__" "Tree.__contains__" s_Tree_contains ["self", "x"]) ∧ Nonempty (MethAt K C "folder" "Tree.folder" s_Tree_folder ["self", "box"]) ∧ Nonempty (MethAt K C "kind" "Tree.kind" s_Tree_kind ["self", "box"]) ∧ Nonempty (MethAt K C "price" "Tree.price" s_Tree_price ["self", "box"]) ∧ Nonempty (MethAt K C "below" "Tree.below" s_Tree_below ["self", "box"]) ∧ ∃ CM : Addr, TxM K mg CM ∧ TxN K CM ∧ C8.InsC K CM ∧ (∃ (f : Addr) (fd : FuncData) (Te : Addr), FunD K "__init__" "Meaning.__init__" (defArgs s_Meaning_init) (defBody s_Meaning_init) (defScope s_Meaning_init) [V.ref Te] [] f fd ∧ Mk K CM f ∧ Binds K fd ["self", "tree", "default", "turns"] []) ∧ Nonempty (MethAt K CM "value" "Meaning.value" s_Meaning_value ["self", "box"]) ∧ Nonempty (MethAt K CM "states" "Meaning.states" s_Meaning_states ["self"]) :=
  by
  have FD : FunD K "__init__" "Meaning.__init__" (defArgs s_Meaning_init) (defBody s_Meaning_init) (defScope s_Meaning_init) [V.ref Te] [] mf0 _ := ⟨⟨_, _, _, _, _, _, _, _, _, _, rfl, ml0, mc0, .inr ⟨by simp, Td, _, [.ref Te], nT, rfl, mlT, by rw [← mvT], .cons rfl .nil⟩, .inl rfl⟩, mk0⟩
  obtain ⟨ds2, v2, b2⟩ := FD.binds1 (ps := ["self", "tree", "default", "turns"]) 4 1 (by simp) rfl (fun T kV doc pm an cdv ct us its hu hi => match us, hu, its, hi with | [_, _, _, _], _, [_], _ => ⟨_, rfl, rfl⟩)
  cases v2
  exact ⟨C, ⟨⟨pg, hd, po, sa⟩, nq, nf, nk, np, PySem.W.mg_of X G aC⟩, ⟨ne, ob⟩, ⟨⟨pg, hd, po, sa⟩, ha, hn, htk, hm, kit_me⟩, ⟨f0, _, fun_mk l0 c0 k0, ⟨mk, a0, i0, kc⟩, (fun_mk l0 c0 k0).binds (fun _ _ _ _ _ _ us hl => match us, hl with | [_, _], _ => rfl)⟩, methAt a1 i1 l1 c1 k1 (fun _ _ _ _ _ _ us hl => match us, hl with | [_, _], _ => rfl), methAt a2 i2 l2 c2 k2 (fun _ _ _ _ _ _ us hl => match us, hl with | [_, _], _ => rfl), methAt a3 i3 l3 c3 k3 (fun _ _ _ _ _ _ us hl => match us, hl with | [_, _], _ => rfl), methAt a4 i4 l4 c4 k4 (fun _ _ _ _ _ _ us hl => match us, hl with | [_, _], _ => rfl), methAt a5 i5 l5 c5 k5 (fun _ _ _ _ _ _ us hl => match us, hl with | [_, _], _ => rfl), methAt a6 i6 l6 c6 k6 (fun _ _ _ _ _ _ us hl => match us, hl with | [_, _], _ => rfl), CM, ⟨⟨mpg, mhd, mpo, msa⟩, mnt, mnd, mnu, mnk, PySem.W.mg_of X G maC⟩, ⟨mne, mob⟩, ⟨⟨mpg, mhd, mpo, msa⟩, mha, mhn, mhtk, mhm, kit_me⟩, ⟨mf0, _, Te, FD, ⟨mmk, ma0, mi0, mkc⟩, b2⟩, methAt ma1 mi1 ml1 mc1 mk1 (fun _ _ _ _ _ _ us hl => match us, hl with | [_, _], _ => rfl), methAt ma2 mi2 ml2 mc2 mk2 (fun _ _ _ _ _ _ us hl => match us, hl with | [_], _ => rfl)⟩
theorem countsAll {K : PySem.W.Frag} {h : Heap} {mg : Str → Option Value} (X : K.In h) (G : h.Ns mainGlobals mg) {CC : Addr} {f0 : Addr} {oc0 kV0 dc0 pm0 cd0 ct0 : Value} {od0 an0 : Option Addr} {sl0 : Array (Option Value)} {f1 : Addr} {oc1 kV1 dc1 pm1 cd1 ct1 : Value} {od1 an1 : Option Addr} {sl1 : Array (Option Value)} {f2 : Addr} {oc2 kV2 dc2 pm2 cd2 ct2 : Value} {od2 an2 : Option Addr} {sl2 : Array (Option Value)} {f3 : Addr} {oc3 kV3 dc3 pm3 cd3 ct3 : Value} {od3 an3 : Option Addr} {sl3 : Array (Option Value)} {f4 : Addr} {oc4 kV4 dc4 pm4 cd4 ct4 : Value} {od4 an4 : Option Addr} {sl4 : Array (Option Value)} {Td : Addr} {odT : Option Addr} {itT : Array Value} {nT : Nat} {slT : Array (Option Value)}
    (aC : PySem.W.nsIn K mainGlobals "Counts" = some (some (.ref CC)))
    (pg : PySem.W.plainGet K CC Str.empty = true)
    (hd : PySem.W.hasDictIn K CC = true)
    (po : PySem.W.plainOver K CC = true)
    (sa : PySem.W.findIn K (.ref CC) "__setattr__" = some (some (.builtin "object.__setattr__")))
    (mk : PySem.W.makesIn K CC = true)
    (kc : PySem.W.keepIn K (.ref CC) = true)
    (nt : PySem.W.findIn K (.ref CC) "tree" = some none)
    (np : PySem.W.findIn K (.ref CC) "pairs" = some none)
    (ne : PySem.W.findIn K (.ref CC) "__ne__" = some (some (.builtin "object.__ne__")))
    (ob : PySem.W.subIn K (.ref CC) (.type "object") = some true)
    (iC : PySem.W.isClsIn K CC = true)
    (tC : PySem.W.typeIn K (.ref CC) = some (.type "type"))
    (ha : PySem.W.findIn K (.ref CC) "__class__" = some (some (.builtin "object.__class__")))
    (hn : PySem.W.specialIn K (.builtin "object.__class__") "__get__" = some (some (.builtin "getset_descriptor.__get__")))
    (htk : PySem.W.takesIn K (.builtin "object.__class__") = some true)
    (hm : PySem.W.mroIn K CC (.type "object") = some true)
    (a0 : PySem.W.findIn K (.ref CC) "__init__" = some (some (.ref f0))) (i0 : PySem.W.isFn K (.ref f0) = true) (l0 : K.lookup f0 = some ⟨oc0, od0, .func (PySem.W.fnOf "__init__" "Counts.__init__" (defArgs s_Counts_init) (defBody s_Counts_init) (defScope s_Counts_init) (.ref Td) kV0 dc0 pm0 an0 cd0 ct0), sl0⟩) (c0 : PySem.W.codeIn K cd0 "Counts.__init__" = true) (k0 : PySem.W.keepIn K (.ref f0) = true)
    (a1 : PySem.W.findIn K (.ref CC) "on" = some (some (.ref f1))) (i1 : PySem.W.isFn K (.ref f1) = true) (l1 : K.lookup f1 = some ⟨oc1, od1, .func (PySem.W.fnOf "on" "Counts.on" (defArgs s_Counts_on) (defBody s_Counts_on) (defScope s_Counts_on) .none kV1 dc1 pm1 an1 cd1 ct1), sl1⟩) (c1 : PySem.W.codeIn K cd1 "Counts.on" = true) (k1 : PySem.W.keepIn K (.ref f1) = true)
    (a2 : PySem.W.findIn K (.ref CC) "off" = some (some (.ref f2))) (i2 : PySem.W.isFn K (.ref f2) = true) (l2 : K.lookup f2 = some ⟨oc2, od2, .func (PySem.W.fnOf "off" "Counts.off" (defArgs s_Counts_off) (defBody s_Counts_off) (defScope s_Counts_off) .none kV2 dc2 pm2 an2 cd2 ct2), sl2⟩) (c2 : PySem.W.codeIn K cd2 "Counts.off" = true) (k2 : PySem.W.keepIn K (.ref f2) = true)
    (a3 : PySem.W.findIn K (.ref CC) "shows" = some (some (.ref f3))) (i3 : PySem.W.isFn K (.ref f3) = true) (l3 : K.lookup f3 = some ⟨oc3, od3, .func (PySem.W.fnOf "shows" "Counts.shows" (defArgs s_Counts_shows) (defBody s_Counts_shows) (defScope s_Counts_shows) .none kV3 dc3 pm3 an3 cd3 ct3), sl3⟩) (c3 : PySem.W.codeIn K cd3 "Counts.shows" = true) (k3 : PySem.W.keepIn K (.ref f3) = true)
    (a4 : PySem.W.findIn K (.ref CC) "asks" = some (some (.ref f4))) (i4 : PySem.W.isFn K (.ref f4) = true) (l4 : K.lookup f4 = some ⟨oc4, od4, .func (PySem.W.fnOf "asks" "Counts.asks" (defArgs s_Counts_asks) (defBody s_Counts_asks) (defScope s_Counts_asks) .none kV4 dc4 pm4 an4 cd4 ct4), sl4⟩) (c4 : PySem.W.codeIn K cd4 "Counts.asks" = true) (k4 : PySem.W.keepIn K (.ref f4) = true)
    (lT : K.lookup Td = some ⟨.type "tuple", odT, .seq itT nT, slT⟩) (vT : itT.toList = [.none]) :
    ∃ CC : Addr, TxK K mg CC ∧ (∃ (f : Addr) (fd : FuncData) (ds : List Value), FunD K "__init__" "Counts.__init__" (defArgs s_Counts_init) (defBody s_Counts_init) (defScope s_Counts_init) [V.non] [] f fd ∧ Mk K CC f ∧ Binds K fd ["self", "tree", "ranges"] [] ∧ Binds K fd ["self", "tree", "ranges"] ds ∧ Vals [V.non] ds) ∧ Nonempty (MethAt K CC "on" "Counts.on" s_Counts_on ["self", "meaning", "box"]) ∧ Nonempty (MethAt K CC "off" "Counts.off" s_Counts_off ["self", "meaning", "box"]) ∧ Nonempty (MethAt K CC "shows" "Counts.shows" s_Counts_shows ["self", "meaning", "box"]) ∧ Nonempty (MethAt K CC "asks" "Counts.asks" s_Counts_asks ["self", "meaning", "box"]) :=
  by
  have FD : FunD K "__init__" "Counts.__init__" (defArgs s_Counts_init) (defBody s_Counts_init) (defScope s_Counts_init) [V.non] [] f0 _ := ⟨⟨_, _, _, _, _, _, _, _, _, _, rfl, l0, c0, .inr ⟨by simp, Td, _, [.none], nT, rfl, lT, by rw [← vT], .cons rfl .nil⟩, .inl rfl⟩, k0⟩
  obtain ⟨ds1, v1, b1⟩ := FD.binds1 (ps := ["self", "tree", "ranges"]) 2 0 (by simp) rfl (fun T kV doc pm an cdv ct us its hu hi => match us, hu, its, hi with | [_, _], _, [_], _ => ⟨_, rfl, rfl⟩)
  obtain ⟨ds2, v2, b2⟩ := FD.binds1 (ps := ["self", "tree", "ranges"]) 3 1 (by simp) rfl (fun T kV doc pm an cdv ct us its hu hi => match us, hu, its, hi with | [_, _, _], _, [_], _ => ⟨_, rfl, rfl⟩)
  cases v2
  exact ⟨CC, ⟨⟨pg, hd, po, sa⟩, nt, np, PySem.W.mg_of X G aC⟩, ⟨f0, _, ds1, FD, ⟨mk, a0, i0, kc⟩, b2, b1, v1⟩, methAt a1 i1 l1 c1 k1 (fun _ _ _ _ _ _ us hl => match us, hl with | [_, _, _], _ => rfl), methAt a2 i2 l2 c2 k2 (fun _ _ _ _ _ _ us hl => match us, hl with | [_, _, _], _ => rfl), methAt a3 i3 l3 c3 k3 (fun _ _ _ _ _ _ us hl => match us, hl with | [_, _, _], _ => rfl), methAt a4 i4 l4 c4 k4 (fun _ _ _ _ _ _ us hl => match us, hl with | [_, _, _], _ => rfl)⟩
theorem freeAll {K : PySem.W.Frag} {h : Heap} {mg : Str → Option Value} (X : K.In h) (G : h.Ns mainGlobals mg)
    (z0 : PySem.W.nsIn K mainGlobals "len" = some none) (z1 : PySem.W.nsIn K mainGlobals "abs" = some none) (z2 : PySem.W.nsIn K mainGlobals "int" = some none) (z3 : PySem.W.nsIn K mainGlobals "str" = some none) (z4 : PySem.W.nsIn K mainGlobals "bool" = some none) (z5 : PySem.W.nsIn K mainGlobals "list" = some none) (z6 : PySem.W.nsIn K mainGlobals "tuple" = some none) (z7 : PySem.W.nsIn K mainGlobals "dict" = some none) (z8 : PySem.W.nsIn K mainGlobals "range" = some none) (z9 : PySem.W.nsIn K mainGlobals "enumerate" = some none) (z10 : PySem.W.nsIn K mainGlobals "isinstance" = some none) (z11 : PySem.W.nsIn K mainGlobals "all" = some none) (z12 : PySem.W.nsIn K mainGlobals "sum" = some none) (z13 : PySem.W.nsIn K mainGlobals "sorted" = some none) (z14 : PySem.W.nsIn K mainGlobals "set" = some none) : TxB mg ∧ mg "sum" = none ∧ mg "sorted" = none ∧ mg "set" = none :=
  ⟨⟨PySem.W.mg_none_of X G z0, PySem.W.mg_none_of X G z1, PySem.W.mg_none_of X G z2, PySem.W.mg_none_of X G z3, PySem.W.mg_none_of X G z4, PySem.W.mg_none_of X G z5, PySem.W.mg_none_of X G z6, PySem.W.mg_none_of X G z7, PySem.W.mg_none_of X G z8, PySem.W.mg_none_of X G z9, PySem.W.mg_none_of X G z10, PySem.W.mg_none_of X G z11⟩, PySem.W.mg_none_of X G z12, PySem.W.mg_none_of X G z13, PySem.W.mg_none_of X G z14⟩
theorem constAll {K : PySem.W.Frag} {h : Heap} {mg : Str → Option Value} (X : K.In h) (G : h.Ns mainGlobals mg) (num : DefAt K mg "is_number" s_is_number ["thing", "least"]) {t1 t2 t3 : Tok} {kt : Addr} {od : Option Addr} {its : Array Value} {n : Nat} {sl : Array (Option Value)}
    (b1 : PySem.W.nsIn K mainGlobals "TOP" = some (some (.str "top" t1))) (b2 : PySem.W.nsIn K mainGlobals "FOLDER" = some (some (.str "folder" t2))) (b3 : PySem.W.nsIn K mainGlobals "LONGEST_NAME" = some (some (.int 8 t3))) (b4 : PySem.W.nsIn K mainGlobals "KINDS" = some (some (.ref kt)))
    (b5 : K.lookup kt = some ⟨.type "tuple", od, .seq its n, sl⟩) (b6 : its.size ≤ sizeLine) (b7 : Vals (kinds3.map V.str) its.toList) : Nonempty (TxC K mg) :=
  ⟨⟨⟨t1, PySem.W.mg_of X G b1⟩, ⟨t2, PySem.W.mg_of X G b2⟩, ⟨t3, PySem.W.mg_of X G b3⟩, kt, PySem.W.mg_of X G b4, num, ⟨_, its, n, b5, rfl, rfl, b6, b7⟩⟩⟩
theorem constT {K : PySem.W.Frag} {A : Addr} {od : Option Addr} {its : Array Value} {n : Nat} {sl : Array (Option Value)} {xs : List V} (l : K.lookup A = some ⟨.type "tuple", od, .seq its n, sl⟩) (s : its.size ≤ sizeLine) (v : Vals xs its.toList) : ∀ H, SqT K H A xs := fun H => .inr ⟨_, its, n, l, rfl, rfl, s, v⟩
theorem constC {K : PySem.W.Frag} {h : Heap} {mg : Str → Option Value} (X : K.In h) (G : h.Ns mainGlobals mg) {t1 t2 t3 t4 t5 t6 : Tok} {A1 A2 A3 : Addr} {d1 d2 d3 : Option Addr} {i1 i2 i3 : Array Value} {n1 n2 n3 : Nat} {s1 s2 s3 : Array (Option Value)}
    (g1 : PySem.W.nsIn K mainGlobals "NO_ITEMS" = some (some (.ref A1))) (g2 : PySem.W.nsIn K mainGlobals "ONE_ITEM" = some (some (.ref A2))) (g3 : PySem.W.nsIn K mainGlobals "ANY_ITEMS" = some (some (.ref A3)))
    (l1 : K.lookup A1 = some ⟨.type "tuple", d1, .seq i1 n1, s1⟩) (l2 : K.lookup A2 = some ⟨.type "tuple", d2, .seq i2 n2, s2⟩) (l3 : K.lookup A3 = some ⟨.type "tuple", d3, .seq i3 n3, s3⟩)
    (z1 : i1.size ≤ sizeLine) (z2 : i2.size ≤ sizeLine) (z3 : i3.size ≤ sizeLine)
    (w1 : Vals (rgV noI) i1.toList) (w2 : Vals (rgV oneI) i2.toList) (w3 : Vals (rgV anyI) i3.toList)
    (q1 : PySem.W.nsIn K mainGlobals "ITEM" = some (some (.str "item" t1))) (q2 : PySem.W.nsIn K mainGlobals "SHUT" = some (some (.str "shut" t2))) (q3 : PySem.W.nsIn K mainGlobals "PART" = some (some (.str "part" t3))) (q4 : PySem.W.nsIn K mainGlobals "NONE" = some (some (.str "none" t4)))
    (q5 : PySem.W.nsIn K mainGlobals "ON" = some (some (.str "on" t5))) (q6 : PySem.W.nsIn K mainGlobals "OFF" = some (some (.str "off" t6))) :
    Nonempty (TxQ K mg) ∧ TxS mg :=
  ⟨⟨⟨A1, PySem.W.mg_of X G g1, constT l1 z1 w1, A2, PySem.W.mg_of X G g2, constT l2 z2 w2, A3, PySem.W.mg_of X G g3, constT l3 z3 w3, ⟨t1, PySem.W.mg_of X G q1⟩, ⟨t2, PySem.W.mg_of X G q2⟩⟩⟩,
   ⟨⟨t3, PySem.W.mg_of X G q3⟩, ⟨t4, PySem.W.mg_of X G q4⟩, ⟨t5, PySem.W.mg_of X G q5⟩, ⟨t6, PySem.W.mg_of X G q6⟩⟩⟩
theorem walk {l : PySem.W.OpenLaw} {q : Program} {loose : List Str} {XP : (Str → Option Value) → Heap → Prop} {YP : World → Heap → Prop} {d : DefRec} {K : Params → PySem.W.Frag} (hn : l.most = some 63) (hdf : d.params.defaults = [])
    (hY : ∀ (w : World) (h : Heap), YP w h → (K w.params).In h)
    (F : ∀ (w : World) (mg : Str → Option Value) (fa : Addr) (h : Heap), (K w.params).In h → h.Ns mainGlobals mg → mg d.name = some (.ref fa) →
      ∃ fd : FuncData, (∀ (s : Shared) (u : Value), BindsTo s fd ⟨[u], []⟩ [("_law_script", u)]) ∧ ∀ base : Heap, (K w.params).In base → base.Ns mainGlobals mg → FnOk l.prog w (K w.params) mg base CX0 10 fa fd ["_law_script"] (spLaw (K w.params))) :
    PySem.W.WalkO q loose XP YP l.row.toRowW d [] (fun f vs => PySem.call f vs) :=
  L2.walk_of (n := 63) (k := 10) (x := "_law_script") (CX := fun _ => CX0) (sp := fun w => spLaw (K w.params)) hn (by decide) hdf ⟨rfl, by decide, by decide⟩ hY F (fun _ _ a ns hl _ hS => ⟨a, ns, rfl, hS, hl, fun _ => rfl⟩) fun _ _ _ _ _ z => z
end Ts

set_option maxRecDepth 100000
open PySem PySem.W PyProof.Rows in
set_option maxRecDepth 100000 in
set_option maxHeartbeats 0 in
theorem PySem.Challenge.cw_turnsets_k49_whole_counts_holds : PySem.Challenge.rw_turnsets_k49_whole_counts.Holds := by
  w_on; o_law; k_head; (case hw => w_witness2)
  k_fill
  refine Ts.walk (l := PySem.Challenge.rw_turnsets_k49_whole_counts) rfl rfl (fun w h Y => PySem.W.kIn_of Y) ?F
  case F =>
    intro w mg fa h KX G hmg
    obtain ⟨Disname, _⟩ : ∃ D : Ts.DefAt _ mg "is_name" Ts.s_is_name ["thing"], ∀ (s : Shared) (us : List Value), us.length = (["thing"] : List Str).length → BindsTo s D.fd ⟨us, []⟩ ((["thing"] : List Str).zip us) := by
      refine' Ts.defAt KX G ?a ?l ?c ?k ?b
      (case a => k_is)
      (case l => k_is)
      (case c => k_is)
      (case k => k_is)
      (case b => exact fun _ _ _ _ _ _ us hl => match us, hl with | [_], _ => rfl)
    obtain ⟨Disnumber, _⟩ : ∃ D : Ts.DefAt _ mg "is_number" Ts.s_is_number ["thing", "least"], ∀ (s : Shared) (us : List Value), us.length = (["thing", "least"] : List Str).length → BindsTo s D.fd ⟨us, []⟩ ((["thing", "least"] : List Str).zip us) := by
      refine' Ts.defAt KX G ?a ?l ?c ?k ?b
      (case a => k_is)
      (case l => k_is)
      (case c => k_is)
      (case k => k_is)
      (case b => exact fun _ _ _ _ _ _ us hl => match us, hl with | [_, _], _ => rfl)
    obtain ⟨Disprice, _⟩ : ∃ D : Ts.DefAt _ mg "is_price" Ts.s_is_price ["thing"], ∀ (s : Shared) (us : List Value), us.length = (["thing"] : List Str).length → BindsTo s D.fd ⟨us, []⟩ ((["thing"] : List Str).zip us) := by
      refine' Ts.defAt KX G ?a ?l ?c ?k ?b
      (case a => k_is)
      (case l => k_is)
      (case c => k_is)
      (case k => k_is)
      (case b => exact fun _ _ _ _ _ _ us hl => match us, hl with | [_], _ => rfl)
    obtain ⟨Disrow, _⟩ : ∃ D : Ts.DefAt _ mg "is_row" Ts.s_is_row ["thing", "taken", "homes"], ∀ (s : Shared) (us : List Value), us.length = (["thing", "taken", "homes"] : List Str).length → BindsTo s D.fd ⟨us, []⟩ ((["thing", "taken", "homes"] : List Str).zip us) := by
      refine' Ts.defAt KX G ?a ?l ?c ?k ?b
      (case a => k_is)
      (case l => k_is)
      (case c => k_is)
      (case k => k_is)
      (case b => exact fun _ _ _ _ _ _ us hl => match us, hl with | [_, _, _], _ => rfl)
    obtain ⟨Dcheckrows, _⟩ : ∃ D : Ts.DefAt _ mg "check_rows" Ts.s_check_rows ["rows", "names", "folders"], ∀ (s : Shared) (us : List Value), us.length = (["rows", "names", "folders"] : List Str).length → BindsTo s D.fd ⟨us, []⟩ ((["rows", "names", "folders"] : List Str).zip us) := by
      refine' Ts.defAt KX G ?a ?l ?c ?k ?b
      (case a => k_is)
      (case l => k_is)
      (case c => k_is)
      (case k => k_is)
      (case b => exact fun _ _ _ _ _ _ us hl => match us, hl with | [_, _, _], _ => rfl)
    obtain ⟨Dcheckbox, _⟩ : ∃ D : Ts.DefAt _ mg "check_box" Ts.s_check_box ["tree", "thing"], ∀ (s : Shared) (us : List Value), us.length = (["tree", "thing"] : List Str).length → BindsTo s D.fd ⟨us, []⟩ ((["tree", "thing"] : List Str).zip us) := by
      refine' Ts.defAt KX G ?a ?l ?c ?k ?b
      (case a => k_is)
      (case l => k_is)
      (case c => k_is)
      (case k => k_is)
      (case b => exact fun _ _ _ _ _ _ us hl => match us, hl with | [_, _], _ => rfl)
    obtain ⟨Displace, _⟩ : ∃ D : Ts.DefAt _ mg "is_place" Ts.s_is_place ["tree", "thing"], ∀ (s : Shared) (us : List Value), us.length = (["tree", "thing"] : List Str).length → BindsTo s D.fd ⟨us, []⟩ ((["tree", "thing"] : List Str).zip us) := by
      refine' Ts.defAt KX G ?a ?l ?c ?k ?b
      (case a => k_is)
      (case l => k_is)
      (case c => k_is)
      (case k => k_is)
      (case b => exact fun _ _ _ _ _ _ us hl => match us, hl with | [_, _], _ => rfl)
    obtain ⟨Dcheckplace, _⟩ : ∃ D : Ts.DefAt _ mg "check_place" Ts.s_check_place ["tree", "thing"], ∀ (s : Shared) (us : List Value), us.length = (["tree", "thing"] : List Str).length → BindsTo s D.fd ⟨us, []⟩ ((["tree", "thing"] : List Str).zip us) := by
      refine' Ts.defAt KX G ?a ?l ?c ?k ?b
      (case a => k_is)
      (case l => k_is)
      (case c => k_is)
      (case k => k_is)
      (case b => exact fun _ _ _ _ _ _ us hl => match us, hl with | [_, _], _ => rfl)
    obtain ⟨Dcheckturns, _⟩ : ∃ D : Ts.DefAt _ mg "check_turns" Ts.s_check_turns ["tree", "turns"], ∀ (s : Shared) (us : List Value), us.length = (["tree", "turns"] : List Str).length → BindsTo s D.fd ⟨us, []⟩ ((["tree", "turns"] : List Str).zip us) := by
      refine' Ts.defAt KX G ?a ?l ?c ?k ?b
      (case a => k_is)
      (case l => k_is)
      (case c => k_is)
      (case k => k_is)
      (case b => exact fun _ _ _ _ _ _ us hl => match us, hl with | [_, _], _ => rfl)
    obtain ⟨Dchecktrees, _⟩ : ∃ D : Ts.DefAt _ mg "check_trees" Ts.s_check_trees ["one", "other"], ∀ (s : Shared) (us : List Value), us.length = (["one", "other"] : List Str).length → BindsTo s D.fd ⟨us, []⟩ ((["one", "other"] : List Str).zip us) := by
      refine' Ts.defAt KX G ?a ?l ?c ?k ?b
      (case a => k_is)
      (case l => k_is)
      (case c => k_is)
      (case k => k_is)
      (case b => exact fun _ _ _ _ _ _ us hl => match us, hl with | [_, _], _ => rfl)
    obtain ⟨Dvaluesof, _⟩ : ∃ D : Ts.DefAt _ mg "values_of" Ts.s_values_of ["tree", "default", "turns"], ∀ (s : Shared) (us : List Value), us.length = (["tree", "default", "turns"] : List Str).length → BindsTo s D.fd ⟨us, []⟩ ((["tree", "default", "turns"] : List Str).zip us) := by
      refine' Ts.defAt KX G ?a ?l ?c ?k ?b
      (case a => k_is)
      (case l => k_is)
      (case c => k_is)
      (case k => k_is)
      (case b => exact fun _ _ _ _ _ _ us hl => match us, hl with | [_, _, _], _ => rfl)
    obtain ⟨Disrange, _⟩ : ∃ D : Ts.DefAt _ mg "is_range" Ts.s_is_range ["thing"], ∀ (s : Shared) (us : List Value), us.length = (["thing"] : List Str).length → BindsTo s D.fd ⟨us, []⟩ ((["thing"] : List Str).zip us) := by
      refine' Ts.defAt KX G ?a ?l ?c ?k ?b
      (case a => k_is)
      (case l => k_is)
      (case c => k_is)
      (case k => k_is)
      (case b => exact fun _ _ _ _ _ _ us hl => match us, hl with | [_], _ => rfl)
    obtain ⟨Dcheckranges, _⟩ : ∃ D : Ts.DefAt _ mg "check_ranges" Ts.s_check_ranges ["tree", "ranges"], ∀ (s : Shared) (us : List Value), us.length = (["tree", "ranges"] : List Str).length → BindsTo s D.fd ⟨us, []⟩ ((["tree", "ranges"] : List Str).zip us) := by
      refine' Ts.defAt KX G ?a ?l ?c ?k ?b
      (case a => k_is)
      (case l => k_is)
      (case c => k_is)
      (case k => k_is)
      (case b => exact fun _ _ _ _ _ _ us hl => match us, hl with | [_, _], _ => rfl)
    obtain ⟨Drangesof, _⟩ : ∃ D : Ts.DefAt _ mg "ranges_of" Ts.s_ranges_of ["tree", "ranges"], ∀ (s : Shared) (us : List Value), us.length = (["tree", "ranges"] : List Str).length → BindsTo s D.fd ⟨us, []⟩ ((["tree", "ranges"] : List Str).zip us) := by
      refine' Ts.defAt KX G ?a ?l ?c ?k ?b
      (case a => k_is)
      (case l => k_is)
      (case c => k_is)
      (case k => k_is)
      (case b => exact fun _ _ _ _ _ _ us hl => match us, hl with | [_, _], _ => rfl)
    obtain ⟨Dnumberwithin, _⟩ : ∃ D : Ts.DefAt _ mg "number_within" Ts.s_number_within ["counts", "meaning", "box", "value"], ∀ (s : Shared) (us : List Value), us.length = (["counts", "meaning", "box", "value"] : List Str).length → BindsTo s D.fd ⟨us, []⟩ ((["counts", "meaning", "box", "value"] : List Str).zip us) := by
      refine' Ts.defAt KX G ?a ?l ?c ?k ?b
      (case a => k_is)
      (case l => k_is)
      (case c => k_is)
      (case k => k_is)
      (case b => exact fun _ _ _ _ _ _ us hl => match us, hl with | [_, _, _, _], _ => rfl)
    obtain ⟨Dshown, _⟩ : ∃ D : Ts.DefAt _ mg "shown" Ts.s_shown ["has_on", "has_off"], ∀ (s : Shared) (us : List Value), us.length = (["has_on", "has_off"] : List Str).length → BindsTo s D.fd ⟨us, []⟩ ((["has_on", "has_off"] : List Str).zip us) := by
      refine' Ts.defAt KX G ?a ?l ?c ?k ?b
      (case a => k_is)
      (case l => k_is)
      (case c => k_is)
      (case k => k_is)
      (case b => exact fun _ _ _ _ _ _ us hl => match us, hl with | [_, _], _ => rfl)
    obtain ⟨Dmayhave, _⟩ : ∃ D : Ts.DefAt _ mg "may_have" Ts.s_may_have ["number"], ∀ (s : Shared) (us : List Value), us.length = (["number"] : List Str).length → BindsTo s D.fd ⟨us, []⟩ ((["number"] : List Str).zip us) := by
      refine' Ts.defAt KX G ?a ?l ?c ?k ?b
      (case a => k_is)
      (case l => k_is)
      (case c => k_is)
      (case k => k_is)
      (case b => exact fun _ _ _ _ _ _ us hl => match us, hl with | [_], _ => rfl)
    obtain ⟨DLstream, _⟩ : ∃ D : Ts.DefAt _ mg "_law_stream" Ts.s_L_stream ["_law_script", "_law_k"], ∀ (s : Shared) (us : List Value), us.length = (["_law_script", "_law_k"] : List Str).length → BindsTo s D.fd ⟨us, []⟩ ((["_law_script", "_law_k"] : List Str).zip us) := by
      refine' Ts.defAt KX G ?a ?l ?c ?k ?b
      (case a => k_is)
      (case l => k_is)
      (case c => k_is)
      (case k => k_is)
      (case b => exact fun _ _ _ _ _ _ us hl => match us, hl with | [_, _], _ => rfl)
    obtain ⟨DLdraw, _⟩ : ∃ D : Ts.DefAt _ mg "_law_draw" Ts.s_L_draw ["_law_stream_here", "_law_many"], ∀ (s : Shared) (us : List Value), us.length = (["_law_stream_here", "_law_many"] : List Str).length → BindsTo s D.fd ⟨us, []⟩ ((["_law_stream_here", "_law_many"] : List Str).zip us) := by
      refine' Ts.defAt KX G ?a ?l ?c ?k ?b
      (case a => k_is)
      (case l => k_is)
      (case c => k_is)
      (case k => k_is)
      (case b => exact fun _ _ _ _ _ _ us hl => match us, hl with | [_, _], _ => rfl)
    obtain ⟨DLpick, _⟩ : ∃ D : Ts.DefAt _ mg "_law_pick" Ts.s_L_pick ["_law_stream_here", "_law_things"], ∀ (s : Shared) (us : List Value), us.length = (["_law_stream_here", "_law_things"] : List Str).length → BindsTo s D.fd ⟨us, []⟩ ((["_law_stream_here", "_law_things"] : List Str).zip us) := by
      refine' Ts.defAt KX G ?a ?l ?c ?k ?b
      (case a => k_is)
      (case l => k_is)
      (case c => k_is)
      (case k => k_is)
      (case b => exact fun _ _ _ _ _ _ us hl => match us, hl with | [_, _], _ => rfl)
    obtain ⟨DLname, _⟩ : ∃ D : Ts.DefAt _ mg "_law_name" Ts.s_L_name ["_law_stream_here"], ∀ (s : Shared) (us : List Value), us.length = (["_law_stream_here"] : List Str).length → BindsTo s D.fd ⟨us, []⟩ ((["_law_stream_here"] : List Str).zip us) := by
      refine' Ts.defAt KX G ?a ?l ?c ?k ?b
      (case a => k_is)
      (case l => k_is)
      (case c => k_is)
      (case k => k_is)
      (case b => exact fun _ _ _ _ _ _ us hl => match us, hl with | [_], _ => rfl)
    obtain ⟨DLrows, _⟩ : ∃ D : Ts.DefAt _ mg "_law_rows" Ts.s_L_rows ["_law_stream_here", "_law_many", "_law_kinds", "_law_prices"], ∀ (s : Shared) (us : List Value), us.length = (["_law_stream_here", "_law_many", "_law_kinds", "_law_prices"] : List Str).length → BindsTo s D.fd ⟨us, []⟩ ((["_law_stream_here", "_law_many", "_law_kinds", "_law_prices"] : List Str).zip us) := by
      refine' Ts.defAt KX G ?a ?l ?c ?k ?b
      (case a => k_is)
      (case l => k_is)
      (case c => k_is)
      (case k => k_is)
      (case b => exact fun _ _ _ _ _ _ us hl => match us, hl with | [_, _, _, _], _ => rfl)
    obtain ⟨DLway, _⟩ : ∃ D : Ts.DefAt _ mg "_law_way" Ts.s_L_way ["_law_rows_here", "_law_box"], ∀ (s : Shared) (us : List Value), us.length = (["_law_rows_here", "_law_box"] : List Str).length → BindsTo s D.fd ⟨us, []⟩ ((["_law_rows_here", "_law_box"] : List Str).zip us) := by
      refine' Ts.defAt KX G ?a ?l ?c ?k ?b
      (case a => k_is)
      (case l => k_is)
      (case c => k_is)
      (case k => k_is)
      (case b => exact fun _ _ _ _ _ _ us hl => match us, hl with | [_, _], _ => rfl)
    obtain ⟨DLsome, _⟩ : ∃ D : Ts.DefAt _ mg "_law_some" Ts.s_L_some ["_law_stream_here", "_law_things"], ∀ (s : Shared) (us : List Value), us.length = (["_law_stream_here", "_law_things"] : List Str).length → BindsTo s D.fd ⟨us, []⟩ ((["_law_stream_here", "_law_things"] : List Str).zip us) := by
      refine' Ts.defAt KX G ?a ?l ?c ?k ?b
      (case a => k_is)
      (case l => k_is)
      (case c => k_is)
      (case k => k_is)
      (case b => exact fun _ _ _ _ _ _ us hl => match us, hl with | [_, _], _ => rfl)
    obtain ⟨DLopen, _⟩ : ∃ D : Ts.DefAt _ mg "_law_open" Ts.s_L_open ["_law_rows_here"], ∀ (s : Shared) (us : List Value), us.length = (["_law_rows_here"] : List Str).length → BindsTo s D.fd ⟨us, []⟩ ((["_law_rows_here"] : List Str).zip us) := by
      refine' Ts.defAt KX G ?a ?l ?c ?k ?b
      (case a => k_is)
      (case l => k_is)
      (case c => k_is)
      (case k => k_is)
      (case b => exact fun _ _ _ _ _ _ us hl => match us, hl with | [_], _ => rfl)
    obtain ⟨DLbeneath, _⟩ : ∃ D : Ts.DefAt _ mg "_law_beneath" Ts.s_L_beneath ["_law_rows_here", "_law_box"], ∀ (s : Shared) (us : List Value), us.length = (["_law_rows_here", "_law_box"] : List Str).length → BindsTo s D.fd ⟨us, []⟩ ((["_law_rows_here", "_law_box"] : List Str).zip us) := by
      refine' Ts.defAt KX G ?a ?l ?c ?k ?b
      (case a => k_is)
      (case l => k_is)
      (case c => k_is)
      (case k => k_is)
      (case b => exact fun _ _ _ _ _ _ us hl => match us, hl with | [_, _], _ => rfl)
    obtain ⟨DLmeaning, _⟩ : ∃ D : Ts.DefAt _ mg "_law_meaning" Ts.s_L_meaning ["_law_stream_here", "_law_rows_here", "_law_tree"], ∀ (s : Shared) (us : List Value), us.length = (["_law_stream_here", "_law_rows_here", "_law_tree"] : List Str).length → BindsTo s D.fd ⟨us, []⟩ ((["_law_stream_here", "_law_rows_here", "_law_tree"] : List Str).zip us) := by
      refine' Ts.defAt KX G ?a ?l ?c ?k ?b
      (case a => k_is)
      (case l => k_is)
      (case c => k_is)
      (case k => k_is)
      (case b => exact fun _ _ _ _ _ _ us hl => match us, hl with | [_, _, _], _ => rfl)
    obtain ⟨DLwith, _⟩ : ∃ D : Ts.DefAt _ mg "_law_with" Ts.s_L_with ["_law_things", "_law_key", "_law_value"], ∀ (s : Shared) (us : List Value), us.length = (["_law_things", "_law_key", "_law_value"] : List Str).length → BindsTo s D.fd ⟨us, []⟩ ((["_law_things", "_law_key", "_law_value"] : List Str).zip us) := by
      refine' Ts.defAt KX G ?a ?l ?c ?k ?b
      (case a => k_is)
      (case l => k_is)
      (case c => k_is)
      (case k => k_is)
      (case b => exact fun _ _ _ _ _ _ us hl => match us, hl with | [_, _, _], _ => rfl)
    obtain ⟨DLrange, _⟩ : ∃ D : Ts.DefAt _ mg "_law_range" Ts.s_L_range ["_law_stream_here"], ∀ (s : Shared) (us : List Value), us.length = (["_law_stream_here"] : List Str).length → BindsTo s D.fd ⟨us, []⟩ ((["_law_stream_here"] : List Str).zip us) := by
      refine' Ts.defAt KX G ?a ?l ?c ?k ?b
      (case a => k_is)
      (case l => k_is)
      (case c => k_is)
      (case k => k_is)
      (case b => exact fun _ _ _ _ _ _ us hl => match us, hl with | [_], _ => rfl)
    obtain ⟨DLshown, _⟩ : ∃ D : Ts.DefAt _ mg "_law_shown" Ts.s_L_shown ["_law_ons", "_law_offs"], ∀ (s : Shared) (us : List Value), us.length = (["_law_ons", "_law_offs"] : List Str).length → BindsTo s D.fd ⟨us, []⟩ ((["_law_ons", "_law_offs"] : List Str).zip us) := by
      refine' Ts.defAt KX G ?a ?l ?c ?k ?b
      (case a => k_is)
      (case l => k_is)
      (case c => k_is)
      (case k => k_is)
      (case b => exact fun _ _ _ _ _ _ us hl => match us, hl with | [_, _], _ => rfl)
    obtain ⟨DLtotal, _⟩ : ∃ D : Ts.DefAt _ mg "_law_total" Ts.s_L_total ["_law_held_here", "_law_values", "_law_value"], ∀ (s : Shared) (us : List Value), us.length = (["_law_held_here", "_law_values", "_law_value"] : List Str).length → BindsTo s D.fd ⟨us, []⟩ ((["_law_held_here", "_law_values", "_law_value"] : List Str).zip us) := by
      refine' Ts.defAt KX G ?a ?l ?c ?k ?b
      (case a => k_is)
      (case l => k_is)
      (case c => k_is)
      (case k => k_is)
      (case b => exact fun _ _ _ _ _ _ us hl => match us, hl with | [_, _, _], _ => rfl)
    obtain ⟨DLwithin, _⟩ : ∃ D : Ts.DefAt _ mg "_law_within" Ts.s_L_within ["_law_rows_here", "_law_box"], ∀ (s : Shared) (us : List Value), us.length = (["_law_rows_here", "_law_box"] : List Str).length → BindsTo s D.fd ⟨us, []⟩ ((["_law_rows_here", "_law_box"] : List Str).zip us) := by
      refine' Ts.defAt KX G ?a ?l ?c ?k ?b
      (case a => k_is)
      (case l => k_is)
      (case c => k_is)
      (case k => k_is)
      (case b => exact fun _ _ _ _ _ _ us hl => match us, hl with | [_, _], _ => rfl)
    obtain ⟨DLheld, _⟩ : ∃ D : Ts.DefAt _ mg "_law_held" Ts.s_L_held ["_law_rows_here", "_law_ranges", "_law_box"], ∀ (s : Shared) (us : List Value), us.length = (["_law_rows_here", "_law_ranges", "_law_box"] : List Str).length → BindsTo s D.fd ⟨us, []⟩ ((["_law_rows_here", "_law_ranges", "_law_box"] : List Str).zip us) := by
      refine' Ts.defAt KX G ?a ?l ?c ?k ?b
      (case a => k_is)
      (case l => k_is)
      (case c => k_is)
      (case k => k_is)
      (case b => exact fun _ _ _ _ _ _ us hl => match us, hl with | [_, _, _], _ => rfl)
    obtain ⟨DLcounted, _⟩ : ∃ D : Ts.DefAt _ mg "_law_counted" Ts.s_L_counted ["_law_stream_here"], ∀ (s : Shared) (us : List Value), us.length = (["_law_stream_here"] : List Str).length → BindsTo s D.fd ⟨us, []⟩ ((["_law_stream_here"] : List Str).zip us) := by
      refine' Ts.defAt KX G ?a ?l ?c ?k ?b
      (case a => k_is)
      (case l => k_is)
      (case c => k_is)
      (case k => k_is)
      (case b => exact fun _ _ _ _ _ _ us hl => match us, hl with | [_], _ => rfl)
    obtain ⟨DLnumbers, _⟩ : ∃ D : Ts.DefAt _ mg "_law_numbers" Ts.s_L_numbers ["_law_ends"], ∀ (s : Shared) (us : List Value), us.length = (["_law_ends"] : List Str).length → BindsTo s D.fd ⟨us, []⟩ ((["_law_ends"] : List Str).zip us) := by
      refine' Ts.defAt KX G ?a ?l ?c ?k ?b
      (case a => k_is)
      (case l => k_is)
      (case c => k_is)
      (case k => k_is)
      (case b => exact fun _ _ _ _ _ _ us hl => match us, hl with | [_], _ => rfl)
    obtain ⟨DLallnumbers, _⟩ : ∃ D : Ts.DefAt _ mg "_law_all_numbers" Ts.s_L_all_numbers ["_law_ranges"], ∀ (s : Shared) (us : List Value), us.length = (["_law_ranges"] : List Str).length → BindsTo s D.fd ⟨us, []⟩ ((["_law_ranges"] : List Str).zip us) := by
      refine' Ts.defAt KX G ?a ?l ?c ?k ?b
      (case a => k_is)
      (case l => k_is)
      (case c => k_is)
      (case k => k_is)
      (case b => exact fun _ _ _ _ _ _ us hl => match us, hl with | [_], _ => rfl)
    obtain ⟨DLsideshows, _⟩ : ∃ D : Ts.DefAt _ mg "_law_side_shows" Ts.s_L_side_shows ["_law_numbers_here", "_law_values"], ∀ (s : Shared) (us : List Value), us.length = (["_law_numbers_here", "_law_values"] : List Str).length → BindsTo s D.fd ⟨us, []⟩ ((["_law_numbers_here", "_law_values"] : List Str).zip us) := by
      refine' Ts.defAt KX G ?a ?l ?c ?k ?b
      (case a => k_is)
      (case l => k_is)
      (case c => k_is)
      (case k => k_is)
      (case b => exact fun _ _ _ _ _ _ us hl => match us, hl with | [_, _], _ => rfl)
    obtain ⟨DLhangs, _⟩ : ∃ D : Ts.DefAt _ mg "_law_hangs" Ts.s_L_hangs ["_law_name_here", "_law_held_here", "_law_some_here", "_law_values"], ∀ (s : Shared) (us : List Value), us.length = (["_law_name_here", "_law_held_here", "_law_some_here", "_law_values"] : List Str).length → BindsTo s D.fd ⟨us, []⟩ ((["_law_name_here", "_law_held_here", "_law_some_here", "_law_values"] : List Str).zip us) := by
      refine' Ts.defAt KX G ?a ?l ?c ?k ?b
      (case a => k_is)
      (case l => k_is)
      (case c => k_is)
      (case k => k_is)
      (case b => exact fun _ _ _ _ _ _ us hl => match us, hl with | [_, _, _, _], _ => rfl)
    obtain ⟨DLboxright, _⟩ : ∃ D : Ts.DefAt _ mg "_law_box_right" Ts.s_L_box_right ["_law_counts", "_law_meaning_here", "_law_rows_here", "_law_ranges", "_law_box"], ∀ (s : Shared) (us : List Value), us.length = (["_law_counts", "_law_meaning_here", "_law_rows_here", "_law_ranges", "_law_box"] : List Str).length → BindsTo s D.fd ⟨us, []⟩ ((["_law_counts", "_law_meaning_here", "_law_rows_here", "_law_ranges", "_law_box"] : List Str).zip us) := by
      refine' Ts.defAt KX G ?a ?l ?c ?k ?b
      (case a => k_is)
      (case l => k_is)
      (case c => k_is)
      (case k => k_is)
      (case b => exact fun _ _ _ _ _ _ us hl => match us, hl with | [_, _, _, _, _], _ => rfl)
    obtain ⟨Dlaw, bL⟩ : ∃ D : Ts.DefAt _ mg "law" Ts.s_law ["_law_script"], ∀ (s : Shared) (us : List Value), us.length = (["_law_script"] : List Str).length → BindsTo s D.fd ⟨us, []⟩ ((["_law_script"] : List Str).zip us) := by
      refine' Ts.defAt KX G ?a ?l ?c ?k ?b
      (case a => k_is)
      (case l => k_is)
      (case c => k_is)
      (case k => k_is)
      (case b => exact fun _ _ _ _ _ _ us hl => match us, hl with | [_], _ => rfl)
    obtain ⟨B, hSum, hSo, hSet⟩ : Ts.TxB mg ∧ mg "sum" = none ∧ mg "sorted" = none ∧ mg "set" = none := by
      refine' Ts.freeAll KX G ?z0 ?z1 ?z2 ?z3 ?z4 ?z5 ?z6 ?z7 ?z8 ?z9 ?z10 ?z11 ?z12 ?z13 ?z14
      (case z0 => k_is)
      (case z1 => k_is)
      (case z2 => k_is)
      (case z3 => k_is)
      (case z4 => k_is)
      (case z5 => k_is)
      (case z6 => k_is)
      (case z7 => k_is)
      (case z8 => k_is)
      (case z9 => k_is)
      (case z10 => k_is)
      (case z11 => k_is)
      (case z12 => k_is)
      (case z13 => k_is)
      (case z14 => k_is)
    obtain ⟨TC⟩ := by
      refine' Ts.constAll KX G Disnumber ?b1 ?b2 ?b3 ?b4 ?b5 ?b6 ?b7
      (case b1 => k_is)
      (case b2 => k_is)
      (case b3 => k_is)
      (case b4 => k_is)
      (case b5 => k_is)
      (case b6 => decide)
      (case b7 => exact .cons ⟨_, rfl⟩ (.cons ⟨_, rfl⟩ (.cons ⟨_, rfl⟩ .nil)))
    obtain ⟨⟨TQ⟩, TS⟩ := by
      refine' Ts.constC KX G ?Yg1 ?Yg2 ?Yg3 ?Yl1 ?Yl2 ?Yl3 ?Yz1 ?Yz2 ?Yz3 ?Yw1 ?Yw2 ?Yw3 ?Yq1 ?Yq2 ?Yq3 ?Yq4 ?Yq5 ?Yq6
      (case Yg1 => k_is)
      (case Yg2 => k_is)
      (case Yg3 => k_is)
      (case Yl1 => k_is)
      (case Yl2 => k_is)
      (case Yl3 => k_is)
      (case Yz1 => decide)
      (case Yz2 => decide)
      (case Yz3 => decide)
      (case Yw1 => exact .cons ⟨_, rfl⟩ (.cons ⟨_, rfl⟩ .nil))
      (case Yw2 => exact .cons ⟨_, rfl⟩ (.cons ⟨_, rfl⟩ .nil))
      (case Yw3 => exact .cons ⟨_, rfl⟩ (.cons rfl .nil))
      (case Yq1 => k_is)
      (case Yq2 => k_is)
      (case Yq3 => k_is)
      (case Yq4 => k_is)
      (case Yq5 => k_is)
      (case Yq6 => k_is)
    obtain ⟨C, T, N, I, ⟨fI, fdI, FI, MT, bI⟩, ⟨M_eq⟩, ⟨M_contains⟩, ⟨M_folder⟩, ⟨M_kind⟩, ⟨M_price⟩, ⟨M_below⟩, CM, M, NM, IM, ⟨fM, fdM, Te, FM, MM, bM⟩, ⟨L_value⟩, ⟨L_states⟩⟩ := by
      refine' Ts.bothAll KX G ?aC ?pg ?hd ?po ?sa ?mk ?kc ?nq ?nf ?nk ?np ?ne ?ob ?iC ?tC ?ha ?hn ?htk ?hm ?a0 ?i0 ?l0 ?c0 ?k0 ?a1 ?i1 ?l1 ?c1 ?k1 ?a2 ?i2 ?l2 ?c2 ?k2 ?a3 ?i3 ?l3 ?c3 ?k3 ?a4 ?i4 ?l4 ?c4 ?k4 ?a5 ?i5 ?l5 ?c5 ?k5 ?a6 ?i6 ?l6 ?c6 ?k6 ?maC ?mpg ?mhd ?mpo ?msa ?mmk ?mkc ?mnt ?mnd ?mnu ?mnk ?mne ?mob ?miC ?mtC ?mha ?mhn ?mhtk ?mhm ?ma0 ?mi0 ?ml0 ?mc0 ?mk0 ?mlT ?mvT ?mlE ?mvE ?ma1 ?mi1 ?ml1 ?mc1 ?mk1 ?ma2 ?mi2 ?ml2 ?mc2 ?mk2
      (case aC => k_is)
      (case pg => k_is)
      (case hd => k_is)
      (case po => k_is)
      (case sa => k_is)
      (case mk => k_is)
      (case kc => k_is)
      (case nq => k_is)
      (case nf => k_is)
      (case nk => k_is)
      (case np => k_is)
      (case ne => k_is)
      (case ob => k_is)
      (case iC => k_is)
      (case tC => k_is)
      (case ha => k_is)
      (case hn => k_is)
      (case htk => k_is)
      (case hm => k_is)
      (case a0 => k_is)
      (case i0 => k_is)
      (case l0 => k_is)
      (case c0 => k_is)
      (case k0 => k_is)
      (case a1 => k_is)
      (case i1 => k_is)
      (case l1 => k_is)
      (case c1 => k_is)
      (case k1 => k_is)
      (case a2 => k_is)
      (case i2 => k_is)
      (case l2 => k_is)
      (case c2 => k_is)
      (case k2 => k_is)
      (case a3 => k_is)
      (case i3 => k_is)
      (case l3 => k_is)
      (case c3 => k_is)
      (case k3 => k_is)
      (case a4 => k_is)
      (case i4 => k_is)
      (case l4 => k_is)
      (case c4 => k_is)
      (case k4 => k_is)
      (case a5 => k_is)
      (case i5 => k_is)
      (case l5 => k_is)
      (case c5 => k_is)
      (case k5 => k_is)
      (case a6 => k_is)
      (case i6 => k_is)
      (case l6 => k_is)
      (case c6 => k_is)
      (case k6 => k_is)
      (case maC => k_is)
      (case mpg => k_is)
      (case mhd => k_is)
      (case mpo => k_is)
      (case msa => k_is)
      (case mmk => k_is)
      (case mkc => k_is)
      (case mnt => k_is)
      (case mnd => k_is)
      (case mnu => k_is)
      (case mnk => k_is)
      (case mne => k_is)
      (case mob => k_is)
      (case miC => k_is)
      (case mtC => k_is)
      (case mha => k_is)
      (case mhn => k_is)
      (case mhtk => k_is)
      (case mhm => k_is)
      (case ma0 => k_is)
      (case mi0 => k_is)
      (case ml0 => k_is)
      (case mc0 => k_is)
      (case mk0 => k_is)
      (case mlT => k_is)
      (case mvT => rfl)
      (case mlE => k_is)
      (case mvE => rfl)
      (case ma1 => k_is)
      (case mi1 => k_is)
      (case ml1 => k_is)
      (case mc1 => k_is)
      (case mk1 => k_is)
      (case ma2 => k_is)
      (case mi2 => k_is)
      (case ml2 => k_is)
      (case mc2 => k_is)
      (case mk2 => k_is)
    obtain ⟨CC, TK, ⟨fC, fdC, dsC, FC, MC, bC, bC1, rC1⟩, ⟨N_on⟩, ⟨N_off⟩, ⟨N_shows⟩, ⟨N_asks⟩⟩ := by
      refine' Ts.countsAll KX G ?WaC ?Wpg ?Whd ?Wpo ?Wsa ?Wmk ?Wkc ?Wnt ?Wnp ?Wne ?Wob ?WiC ?WtC ?Wha ?Whn ?Whtk ?Whm ?Wa0 ?Wi0 ?Wl0 ?Wc0 ?Wk0 ?Wa1 ?Wi1 ?Wl1 ?Wc1 ?Wk1 ?Wa2 ?Wi2 ?Wl2 ?Wc2 ?Wk2 ?Wa3 ?Wi3 ?Wl3 ?Wc3 ?Wk3 ?Wa4 ?Wi4 ?Wl4 ?Wc4 ?Wk4 ?WlT ?WvT
      (case WaC => k_is)
      (case Wpg => k_is)
      (case Whd => k_is)
      (case Wpo => k_is)
      (case Wsa => k_is)
      (case Wmk => k_is)
      (case Wkc => k_is)
      (case Wnt => k_is)
      (case Wnp => k_is)
      (case Wne => k_is)
      (case Wob => k_is)
      (case WiC => k_is)
      (case WtC => k_is)
      (case Wha => k_is)
      (case Whn => k_is)
      (case Whtk => k_is)
      (case Whm => k_is)
      (case Wa0 => k_is)
      (case Wi0 => k_is)
      (case Wl0 => k_is)
      (case Wc0 => k_is)
      (case Wk0 => k_is)
      (case Wa1 => k_is)
      (case Wi1 => k_is)
      (case Wl1 => k_is)
      (case Wc1 => k_is)
      (case Wk1 => k_is)
      (case Wa2 => k_is)
      (case Wi2 => k_is)
      (case Wl2 => k_is)
      (case Wc2 => k_is)
      (case Wk2 => k_is)
      (case Wa3 => k_is)
      (case Wi3 => k_is)
      (case Wl3 => k_is)
      (case Wc3 => k_is)
      (case Wk3 => k_is)
      (case Wa4 => k_is)
      (case Wi4 => k_is)
      (case Wl4 => k_is)
      (case Wc4 => k_is)
      (case Wk4 => k_is)
      (case WlT => k_is)
      (case WvT => rfl)
    have e := hmg.symm.trans Dlaw.g
    cases e
    refine ⟨Dlaw.fd, fun s v => bL s [v] rfl, fun base _ _ => ?_⟩
    have Gc := Ts.ok_check_rows (P := PySem.Challenge.rw_turnsets_k49_whole_counts.prog) (w := w) (base := base) Dcheckrows Disrow Disname Disprice B TC
    have GT := Ts.ok_Tree_init FI Dcheckrows Gc B TC T
    have Gb := Ts.ok_check_box (P := PySem.Challenge.rw_turnsets_k49_whole_counts.prog) (w := w) (base := base) Dcheckbox M_contains B T
    have Gip := Ts.ok_is_place (P := PySem.Challenge.rw_turnsets_k49_whole_counts.prog) (w := w) (base := base) Displace M_contains B TC T
    have Gpl := Ts.ok_check_place Dcheckplace Displace Gip
    have GF := Ts.ok_Tree_folder M_folder.F Dcheckbox Gb T
    have GK := Ts.ok_Tree_kind M_kind.F Dcheckbox Gb T
    have GP := Ts.ok_Tree_price M_price.F Dcheckbox Gb T
    have GB := Ts.ok_Tree_below M_below.F Dcheckplace Gpl B T
    have GE := Ts.ok_Tree_eq (P := PySem.Challenge.rw_turnsets_k49_whole_counts.prog) (w := w) (base := base) M_eq.F B T I
    have Gvo := Ts.ok_values_of Dvaluesof TC T M_below GB M_folder GF
    have Gcu := Ts.ok_check_turns Dcheckturns Dcheckbox Gb T M_price GP
    have GM := Ts.ok_M_init (CM := CM) FM B TC T M Dcheckturns Gcu Dvaluesof Gvo M_below GB
    have Gtn := Ts.ok_treesN Dchecktrees N M_eq GE
    have GV := Ts.ok_M_value L_value.F M Dcheckplace Gpl
    have GSt := Ts.ok_M_states (P := PySem.Challenge.rw_turnsets_k49_whole_counts.prog) (w := w) (base := base) (C := C) L_states.F B M
    have Gcr := Ts.ok_check_ranges Dcheckranges B TC T TQ M_contains M_kind GK Disrange
    have Gro := Ts.ok_ranges_of Drangesof B TC T TQ M_below GB M_kind GK
    have GC := Ts.ok_Counts_init FC TK Dcheckranges Gcr Drangesof Gro
    have GCN := Ts.ok_Counts_initN FC TK Dcheckranges Gcr Drangesof Gro
    have Gnw := Ts.ok_num Dnumberwithin hSum T M TK Dchecktrees Gtn Dcheckplace Gpl M_below GB L_value GV
    have Gon := Ts.ok_on N_on.F Dnumberwithin Gnw
    have Gof := Ts.ok_off N_off.F Dnumberwithin Gnw
    have Gsh := Ts.ok_shows N_shows.F hSo TK TS N_on Gon N_off Gof Dmayhave Dshown
    have Gas := Ts.ok_asks N_asks.F T M TK N_on Gon N_off Gof M_below GB L_value GV
    have Gd := Ts.ok_draw (P := PySem.Challenge.rw_turnsets_k49_whole_counts.prog) (w := w) (base := base) DLdraw B
    have Gp := Ts.ok_pick (P := PySem.Challenge.rw_turnsets_k49_whole_counts.prog) (w := w) (base := base) DLpick DLdraw B
    have Gway := Ts.ok_way (P := PySem.Challenge.rw_turnsets_k49_whole_counts.prog) (w := w) (base := base) DLway B
    have Gr := Ts.ok_rows (P := PySem.Challenge.rw_turnsets_k49_whole_counts.prog) (w := w) (base := base) DLway DLrows DLname DLpick DLdraw B
    have Gso := Ts.ok_Lsome DLsome DLdraw Gd
    have Go := Ts.ok_Lopen (P := PySem.Challenge.rw_turnsets_k49_whole_counts.prog) (w := w) (base := base) DLopen
    have Gmn := Ts.ok_mng DLmeaning M DLdraw Gd DLopen Go DLsome Gso MM bM GM
    have Gbe := Ts.ok_beneath DLbeneath DLway Gway
    have Gwi := Ts.ok_Lwithin DLwithin DLbeneath Gbe
    have Ghe := Ts.ok_Lheld DLheld DLwithin Gwi
    have Gto := Ts.ok_Ltotal (P := PySem.Challenge.rw_turnsets_k49_whole_counts.prog) (w := w) (base := base) DLtotal hSum
    have Grg := Ts.ok_LRg DLrange B DLdraw DLpick Gp
    have Gco := Ts.ok_LCo DLcounted B DLdraw DLrows Gr DLsome Gso DLrange Grg
    have Gal := Ts.ok_Lall (P := PySem.Challenge.rw_turnsets_k49_whole_counts.prog) (w := w) (base := base) DLallnumbers B DLwith DLnumbers
    have Gsd := Ts.ok_Lside (P := PySem.Challenge.rw_turnsets_k49_whole_counts.prog) (w := w) (base := base) DLsideshows hSum DLshown
    have Ghg := Ts.ok_Lhangs DLhangs DLsideshows Gsd
    have Gbx := Ts.ok_Lbox DLboxright B hSo hSet M TK L_states GSt DLheld Ghe DLtotal Gto DLallnumbers Gal DLsideshows Gsd DLhangs Ghg N_on Gon N_off Gof N_shows Gsh N_asks Gas
    exact Ts.ok_law Dlaw B T M TK N DLstream DLcounted Gco DLmeaning Gmn DLboxright Gbx M_eq GE N_on Gon MT bI GT MC bC GC bC1 rC1 GCN
