import PyProof.Rows.All
import Wide.All
import OpenK.AllK
import Wide.FinOn
import KE.GoesMore
import KE.GoesEnum
import PyProof.EqAt
import PyProof.EqKinds
import PyProof.TupleCall
import PyProof.InstEq
import KE.KDictPairs
import KE.KFmtOwn
import HandS.ForMost
import HandS.Evl
import HandS.IsInst
import HandS.More
import HandS.ClsMeth
import HandS.Defaults
import HandS.CallLocal
import HandS.NoneIn
import HandS.SortInts
import HandS.Style
import HandS.Wide
import HandS.TupAny
import HandS.Slots
import HandS.SlotsOwn
import HandS.Walk
import HandS.Zip
import HandS.Rev
import HandS.Small
import HandS.OwnEq
import HandS.DictEq
import HandS.DeepEq
import KE.KOwnIter
import HandS.IterVal
import KE.KOpsOwn
import HandS.ForExc
import HandS.TryMany
import HandS.ExcOwn
import HandS.WordsExc
import HandS.TryOnly
import PyProof.NeKinds
import KE.HD2
import PySem.Challenge.RW_seenrows_k15_tables_made
set_option Elab.async false
set_option linter.all false
set_option maxRecDepth 100000
set_option maxHeartbeats 4000000
/-! Rules for instances of an own class: ==, !=, [], bool, + - * // % with a dunder of its own. -/
namespace SR
open PySem PySem.Spec PyProof.Rows L2

section
variable {X : Cx} {CX : CXT} {pins : List (Addr × Obj)} {σ : L2.St} {H : Hp} {s : Shared} {a C dx g : Addr} {fs : List (Str × V)} {fd : FuncData} {ps : List Str} {n : Nat} {sp : Sp} {E : XK}

theorem ins_inst (I : Inv X pins σ H s) (ea : H a = some (.ins C dx fs)) : ∃ od, PySem.W.InstAt s.heap a (PySem.W.instObj C dx) C (some od) := by
  obtain ⟨mA, O, _⟩ := ins_get I.hok ea
  obtain ⟨od, J, _⟩ := O.look
  exact ⟨od, J⟩

/-- x == y, x an instance of the class at C whose __eq__ is at g; y anything whose type is known -/
def rEqOwn (K : PySem.W.Frag) (C : Addr) (sp : Sp) (E : XK) : R2 := fun x y H Q => ∃ a dx fs t, x = .ref a ∧ H a = some (.ins C dx fs) ∧ TyX K H y t ∧ PySem.W.notFirst K C t = true ∧ sp [x, y] H (fun z H' => ∃ b, z = .bl b ∧ Q (.bl b) H') E
theorem op_eqOwn (hs : PySem.W.findIn X.K (.ref C) "__eq__" = some (some (.ref g))) (hf : PySem.W.isFn X.K (.ref g) = true) (F : FnOk X.prog X.w X.K X.mg X.base CX n g fd ps sp)
    (hr : Room n X.A) (hb : Binds X.K fd ps []) (hx : Passes CX X E) : OpR X (compareOp .Eq) (rEqOwn X.K C sp E) := by
  intro pins s σ H x y v u Q I rx ry h
  obtain ⟨a, dx, fs, t, rfl, ha, ty, hn, q⟩ := h
  cases (show v = Value.ref a from rx)
  obtain ⟨od, J⟩ := ins_inst I ha
  obtain ⟨P, Z, p, hx'⟩ := kit_of I ry ty
  obtain ⟨m, hF⟩ := I.fr
  show wpAny _ _ (richCompare .Eq (.ref a) u) _ _ _
  refine PySem.W.cmp_K (op := .Eq) (tb := t) hr.units0 hF I.ok.mod.kin J (Z.ty _ _ I.kIn p) hn hs hf ?_
  refine wpAny_mono (run_fn (us := [.ref a, u]) (vs := [.ref a, y]) F hr hb .nil hx I (.cons rfl (.cons ry .nil)) (by exact q)) (fun w s' z => ?_) fun _ _ x => x
  obtain ⟨z', H', I', rz, b, rfl, qz⟩ := z
  cases (show w = Value.bool b from rz)
  exact ⟨.bl b, H', I', rfl, qz⟩
end

section
variable {prog : Program} {w : World} {A : Around} {E : Value → Shared → Prop} {s : Shared} {K : PySem.W.Frag} {x C L f : Addr} {h₀ : Heap} {m : Str → Option Value} {ox : Obj} {od : Option Obj} {name : Str} {b tb : Value}
open PySem.W in
theorem ifBound_bi {M : Model} {id : String} {args : List Value} {Q : Option Value → Shared → Prop} (X : K.In s.heap) (I : InstAt s.heap x ox C od) (hs : findIn K (.ref C) name = some (some (.builtin id)))
    (hb : ∀ self, bindSpecial (.builtin id) self = pure (.builtin id, [self]))
    (h : wpAny M A (call (.builtin id) (.ref x :: args)) (fun v => Q (some v)) E s) : wpAny M A (callSpecialIfBound? (.ref x) name args) Q E s := by
  simp only [callSpecialIfBound?, bindSpecialIfBound?]
  refine wpAny_holding (wpAny_bind (wpAny_bind (wpAny_bind (I.type.here ((looks_findIn X hs).here ?_)))))
  refine wpAny_bind (wpAny_askSetting (wpAny_ite ?_))
  have fin : wpAny M A (call (.builtin id) ([.ref x] ++ args) >>= fun v => pure (some v)) Q E s := wpAny_bind (wpAny_mono h (fun v s' h' => wpAny_pure h') fun _ _ h' => h')
  split
  · exact wpAny_bind ((Looks.of_pure (hb _)).here (wpAny_pure (by exact fin)))
  · exact wpAny_tryCatch (wpAny_bind ((Looks.of_pure (hb _)).here (wpAny_pure (by exact fin))))
open PySem.W in
/-- a comparison whose first try gives a value -/
theorem cmp_first {op : CmpOp} {Q : Value → Shared → Prop} (hu : A.units < cLine) (X : K.In s.heap) (I : InstAt s.heap x ox C od) (hb : Looks (model prog w) s.heap (typeOf b) tb) (hn : notFirst K C tb = true)
    (one : wpAny (model prog w) A (tryCompare (.ref x) (cmpInfo op).2.1 b) (fun r s' => ∃ v, r = some v ∧ Q v s') E s) : wpAny (model prog w) A (richCompare op (.ref x) b) Q E s := by
  unfold richCompare
  simp only [oneThing_ref]
  refine wpAny_holding (wpAny_bind (wpAny_cRoomFor hu ?_))
  refine wpAny_bind (I.type.here (wpAny_bind (hb.here ?_)))
  split
  · rename_i q
    have e : subIn K tb (.ref C) = some false := by
      rcases Bool.or_eq_true_iff.mp hn with e | e
      · rw [beq_iff_eq.mp e] at q; simp at q
      · exact beq_iff_eq.mp e
    refine wpAny_bind ((looks_subIn X e).here ?_)
    simp only [Bool.false_eq_true, if_false]
    refine wpAny_bind (wpAny_mono one (fun r s' z => ?_) fun _ _ e => e)
    obtain ⟨v, rfl, hq⟩ := z
    exact wpAny_pure hq
  · refine wpAny_bind (wpAny_pure ?_)
    simp only [Bool.false_eq_true, if_false]
    refine wpAny_bind (wpAny_mono one (fun r s' z => ?_) fun _ _ e => e)
    obtain ⟨v, rfl, hq⟩ := z
    exact wpAny_pure hq
open PySem.W Builtin in
theorem obj_ne {Q : Value → Shared → Prop} (hu : A.in1.units < cLine) (X : K.In s.heap) (I : InstAt s.heap x ox C od) (hm : mroIn K C (.type "object") = some true) (hs : findIn K (.ref C) "__eq__" = some (some (.ref f))) (hf : isFn K (.ref f) = true)
    (h : wpAny (model prog w) A.in1 (call (.ref f) [.ref x, b]) (fun v s' => ∃ k, v = .bool k ∧ Q (.bool (!k)) s') E s) : wpAny (model prog w) A (call (.builtin "object.__ne__") [.ref x, b]) Q E s := by
  refine wpAny_call (codeAny_call_builtin PySem.F.cmp_object.ne.plain PySem.F.cmpEntry_ne (check_slot (i := "object.__ne__") (owner := "object") (n := "__ne__") PySem.F.cmpKind_ne PySem.F.cmpSplit_ne (I.type.andThen (looks_mroIn X hm)) (PySem.F.cmpArgs_ne _ _) ?_))
  unfold Builtin.«object.__ne__»
  refine wpAny_bind (m := slotArgs "__ne__" 1 _) (wpAny_pure ?_)
  refine wpAny_bind (m := cRoomFor _ _) (wpAny_cRoomFor hu ?_)
  refine wpAny_bind (m := callSpecialIfBound? (.ref x) (Str.ofString "__eq__") _) (ifBound_K X I hs hf (wpAny_mono h (fun r s' hq => ?_) fun _ _ y => y))
  obtain ⟨k, rfl, hq⟩ := hq
  refine wpAny_bind (m := truthy (.bool k)) (wpAny_truthy_bool ?_)
  exact wpAny_pure hq
open PySem.W in
theorem ne_own {Q : Value → Shared → Prop} (hu : A.units + 2 < cLine) (X : K.In s.heap) (I : InstAt s.heap x ox C od) (hb : Looks (model prog w) s.heap (typeOf b) tb) (hn : notFirst K C tb = true) (hm : mroIn K C (.type "object") = some true)
    (hne : findIn K (.ref C) "__ne__" = some (some (.builtin "object.__ne__"))) (hs : findIn K (.ref C) "__eq__" = some (some (.ref f))) (hf : isFn K (.ref f) = true)
    (h : wpAny (model prog w) A.in1 (call (.ref f) [.ref x, b]) (fun v s' => ∃ k, v = .bool k ∧ Q (.bool (!k)) s') E s) : wpAny (model prog w) A (richCompare .NotEq (.ref x) b) Q E s := by
  refine cmp_first (op := .NotEq) (by omega) X I hb hn ?_
  unfold tryCompare
  refine wpAny_bind (ifBound_bi X I hne PySem.F.cmp_object.ne.bind (obj_ne (by show A.units + 1 < cLine; omega) X I hm hs hf (wpAny_mono h (fun r s' hq => ?_) fun _ _ y => y)))
  obtain ⟨k, rfl, hq⟩ := hq
  exact ⟨k, rfl, wpAny_pure ⟨_, rfl, hq⟩⟩
end
section
variable {X : Cx} {CX : CXT} {pins : List (Addr × Obj)} {σ : L2.St} {H : Hp} {s : Shared} {a C dx g : Addr} {fs : List (Str × V)} {fd : FuncData} {ps : List Str} {n : Nat} {sp : Sp} {E : XK}
/-- the callee runs one room deeper -/
theorem run_fn1 {Q : VK} {us : List Value} {vs : List V} (F : FnOk X.prog X.w X.K X.mg X.base CX n g fd ps sp) (hr : Room (n + 1) X.A) (hb : Binds X.K fd ps []) (hx : Passes CX X E) (I : Inv X pins σ H s) (r : Vals vs us) (h : sp vs H Q E) :
    wpAny (model X.prog X.w) X.A.in1 (call (.ref g) us) (EP X pins σ Q) X.xe s := by
  have hl : (us ++ []).length = ps.length := by rw [List.append_nil, ← r.length]; exact F.len _ _ _ _ h
  have hb' := hb s us I.kIn hl
  rw [List.append_nil] at hb'
  refine wpAny_call (codeAny_mono (F.run X.A.in1 X.stack s H ⟨us, []⟩ us vs Q E hr.in1 I.env0.in1 hb' r h) fun r s' hq => ?_)
  cases r with
  | error e => exact hx pins σ H s e s' I hq
  | ok fl =>
    cases fl with
    | ret u => exact I.after hq
    | next => exact False.elim hq
    | brk => exact False.elim hq
    | cont => exact False.elim hq
def rNeOwn (K : PySem.W.Frag) (C : Addr) (sp : Sp) (E : XK) : R2 := fun x y H Q => ∃ a dx fs t, x = .ref a ∧ H a = some (.ins C dx fs) ∧ TyX K H y t ∧ PySem.W.notFirst K C t = true ∧ sp [x, y] H (fun z H' => ∃ b, z = .bl b ∧ Q (.bl (!b)) H') E
theorem op_neOwn (hs : PySem.W.findIn X.K (.ref C) "__eq__" = some (some (.ref g))) (hf : PySem.W.isFn X.K (.ref g) = true) (hne : PySem.W.findIn X.K (.ref C) "__ne__" = some (some (.builtin "object.__ne__"))) (hm : PySem.W.mroIn X.K C (.type "object") = some true)
    (F : FnOk X.prog X.w X.K X.mg X.base CX n g fd ps sp) (hr : Room (n + 1) X.A) (hb : Binds X.K fd ps []) (hx : Passes CX X E) : OpR X (compareOp .NotEq) (rNeOwn X.K C sp E) := by
  intro pins s σ H x y v u Q I rx ry h
  obtain ⟨a, dx, fs, t, rfl, ha, ty, hn, q⟩ := h
  cases (show v = Value.ref a from rx)
  obtain ⟨od, J⟩ := ins_inst I ha
  obtain ⟨P, Z, p, hx'⟩ := kit_of I ry ty
  show wpAny _ _ (richCompare .NotEq (.ref a) u) _ _ _
  refine ne_own (tb := t) (by have := hr.units; omega) I.kIn J (Z.ty _ _ I.kIn p) hn hm hne hs hf ?_
  refine wpAny_mono (run_fn1 (us := [.ref a, u]) (vs := [.ref a, y]) F hr hb hx I (.cons rfl (.cons ry .nil)) (by exact q)) (fun w s' z => ?_) fun _ _ x => x
  obtain ⟨z', H', I', rz, b, rfl, qz⟩ := z
  cases (show w = Value.bool b from rz)
  exact ⟨b, rfl, .bl (!b), H', I', rfl, qz⟩
end

section
variable {prog : Program} {w : World} {A : Around} {E : Value → Shared → Prop} {s : Shared} {K : PySem.W.Frag} {x C f : Addr} {ox : Obj} {od : Option Obj}
open PySem.W Builtin in
theorem truthy_own {M : Model} {Q : Bool → Shared → Prop} (X : K.In s.heap) (I : InstAt s.heap x ox C od) (hs : findIn K (.ref C) "__bool__" = some (some (.ref f))) (hf : isFn K (.ref f) = true)
    (h : wpAny M A (call (.ref f) [.ref x]) (fun v s' => ∃ b, v = .bool b ∧ Q b s') E s) : wpAny M A (truthy (.ref x)) Q E s := by
  unfold truthy
  refine wpAny_bind (m := callSpecial? (.ref x) (Str.ofString "__bool__")) (special_fn X I hs (beq_iff_eq.mp hf) (wpAny_mono h (fun r s' hr => ?_) fun _ _ y => y))
  obtain ⟨b, rfl, q⟩ := hr
  exact wpAny_pure q
open Builtin in
/-- bool(x) by x's truth -/
theorem bool_of {x : Value} {Q : Value → Shared → Prop} (h : wpAny (model prog w) A.in1.in1 (truthy x) (fun b s' => Q (.bool b) s') E s) : wpAny (model prog w) A (call (.type "bool") [x]) Q E s := by
  refine callType_codes (T := "bool") (Bi := Builtin.«object.__init__») (Q₁ := fun r s₁ => ∃ b, r = Value.bool b ∧ Q r s₁) PySem.F.called_bool (PySem.F.typeCall_bool_1 _) PySem.F.entry_object_init ?_ ?_
  · refine codeAny_of_tree ?_
    show wpAny _ A.in1.in1 (do checkBuiltinCall "bool.__new__" ⟨[.type "bool", x], []⟩; again (.builtin "bool.__new__" ⟨[.type "bool", x], []⟩)) _ _ s
    refine wpAny_bind (wpAny_of_eq (PySem.F.newCall_bool_1 _) (wpAny_pure ⟨plainId_quiet (by decide +kernel) _, codeAny_builtin PySem.F.entry_bool_new ?_⟩))
    rw [Around.under_plainId (by decide +kernel) _]
    unfold Builtin.«bool.__new__»
    refine wpAny_bind (wpAny_of_eq (a := true) (by first | rfl | kernel_rfl) ?_)
    refine PySem.W.KFB.if_not rfl ?_
    refine wpAny_bind (wpAny_of_eq (a := true) PySem.F.conv_sub_bool ?_)
    refine PySem.W.KFB.if_not rfl ?_
    refine wpAny_bind (m := someArgs "bool" 0 1 _) (wpAny_of_eq (a := [x]) (by first | rfl | kernel_rfl) ?_)
    refine wpAny_bind (wpAny_mono h (fun b s' q => ?_) fun _ _ y => y)
    exact wpAny_pure ⟨b, rfl, q⟩
  · rintro obj s₁ ⟨b, rfl, hq⟩
    exact ⟨rfl, PySem.F.args_object_init_2 _ _, object_init_meets PySem.F.called_bool.init.lookup PySem.F.called_bool.made (by decide) prog w A.in1 _ s₁ ⟨rfl, rfl, hq⟩⟩
end
section
variable {X : Cx} {CX : CXT} {pins : List (Addr × Obj)} {σ : L2.St} {H : Hp} {s : Shared} {a C dx g : Addr} {fs : List (Str × V)} {fd : FuncData} {ps : List Str} {n : Nat} {sp : Sp} {E : XK}
theorem run_fn2 {Q : VK} {us : List Value} {vs : List V} (F : FnOk X.prog X.w X.K X.mg X.base CX n g fd ps sp) (hr : Room (n + 2) X.A) (hb : Binds X.K fd ps []) (hx : Passes CX X E) (I : Inv X pins σ H s) (r : Vals vs us) (h : sp vs H Q E) :
    wpAny (model X.prog X.w) X.A.in1.in1 (call (.ref g) us) (EP X pins σ Q) X.xe s := by
  have hl : (us ++ []).length = ps.length := by rw [List.append_nil, ← r.length]; exact F.len _ _ _ _ h
  have hb' := hb s us I.kIn hl
  rw [List.append_nil] at hb'
  refine wpAny_call (codeAny_mono (F.run X.A.in1.in1 X.stack s H ⟨us, []⟩ us vs Q E (show Room (n + 1) X.A.in1 from Room.in1 hr).in1 I.env0.in1.in1 hb' r h) fun r s' hq => ?_)
  cases r with
  | error e => exact hx pins σ H s e s' I hq
  | ok fl =>
    cases fl with
    | ret u => exact I.after hq
    | next => exact False.elim hq
    | brk => exact False.elim hq
    | cont => exact False.elim hq
/-- the truth of an instance -/
def rTruOwn (C : Addr) (sp : Sp) (E : XK) : V → Hp → (Bool → Hp → Prop) → Prop := fun x H Q => ∃ a dx fs, x = .ref a ∧ H a = some (.ins C dx fs) ∧ sp [x] H (fun z H' => ∃ b, z = .bl b ∧ Q b H') E
theorem tru_own (hs : PySem.W.findIn X.K (.ref C) "__bool__" = some (some (.ref g))) (hf : PySem.W.isFn X.K (.ref g) = true) (F : FnOk X.prog X.w X.K X.mg X.base CX n g fd ps sp)
    (hr : Room n X.A) (hb : Binds X.K fd ps []) (hx : Passes CX X E) : TruR X (rTruOwn C sp E) := by
  intro pins s σ H x v Q I rx h
  obtain ⟨a, dx, fs, rfl, ha, q⟩ := h
  cases (show v = Value.ref a from rx)
  obtain ⟨od, J⟩ := ins_inst I ha
  refine truthy_own I.kIn J hs hf (wpAny_mono (run_fn (us := [.ref a]) (vs := [.ref a]) F hr hb .nil hx I (.cons rfl .nil) (by exact q)) (fun w s' z => ?_) fun _ _ x => x)
  obtain ⟨z', H', I', rz, b, rfl, qz⟩ := z
  cases (show w = Value.bool b from rz)
  exact ⟨b, rfl, H', I', qz⟩
def rBoolOwn (C : Addr) (sp : Sp) (E : XK) : List V → Hp → VK → Prop := fun xs H Q => ∃ a dx fs, xs = [.ref a] ∧ H a = some (.ins C dx fs) ∧ sp [.ref a] H (fun z H' => ∃ b, z = .bl b ∧ Q (.bl b) H') E
theorem call_boolOwn (hs : PySem.W.findIn X.K (.ref C) "__bool__" = some (some (.ref g))) (hf : PySem.W.isFn X.K (.ref g) = true) (F : FnOk X.prog X.w X.K X.mg X.base CX n g fd ps sp)
    (hr : Room (n + 2) X.A) (hb : Binds X.K fd ps []) (hx : Passes CX X E) : CallR X (.type "bool") (rBoolOwn C sp E) := by
  intro pins s σ H xs us Q I r h
  obtain ⟨a, dx, fs, rfl, ha, q⟩ := h
  obtain rfl := Vals.ref1 r
  obtain ⟨od, J⟩ := ins_inst I ha
  refine bool_of (truthy_own I.kIn J hs hf (wpAny_mono (run_fn2 (us := [.ref a]) (vs := [.ref a]) F hr hb hx I (.cons rfl .nil) (by exact q)) (fun w s' z => ?_) fun _ _ x => x))
  obtain ⟨z', H', I', rz, b, rfl, qz⟩ := z
  cases (show w = Value.bool b from rz)
  exact ⟨b, rfl, .bl b, H', I', rfl, qz⟩
/-- o[i] by an own __getitem__ -/
def rIxOwn (C : Addr) (sp : Sp) (E : XK) : R2 := fun x y H Q => ∃ a dx fs, x = .ref a ∧ H a = some (.ins C dx fs) ∧ sp [x, y] H Q E
def PlainIxO (b : Expr) : Prop := ∀ o i, subscripted b true o i = runValue (.builtin "lifetime.subscript" ⟨[o, i], []⟩)
theorem pe_ixOwn {a b : Expr} {ta tb : TE} {pos : Pos} (hs : PySem.W.findIn X.K (.ref C) "__getitem__" = some (some (.ref g))) (hf : PySem.W.fnIn X.K g = true) (hfn : PySem.W.isFn X.K (.ref g) = true) (F : FnOk X.prog X.w X.K X.mg X.base CX n g fd ps sp)
    (hr : Room (n + 1) X.A) (hb : Binds X.K fd ps []) (hx : Passes CX X E) (ha : PE X a ta) (hi : PE X b tb) (hsl : PlainIxO b) : PE X (.Subscript a b pos) (tOp (rIxOwn C sp E) ta tb) := by
  refine ⟨fun pins s σ H Q I h => ?_⟩
  refine Subscript_ (binT ha hi I h fun v u s2 x y H2 I2 rx ry q => ?_)
  obtain ⟨p, dx, fs, rfl, hp, q⟩ := q
  cases (show v = Value.ref p from rx)
  obtain ⟨od, J⟩ := ins_inst I2 hp
  obtain ⟨m, hF⟩ := I2.fr
  exact PySem.W.sub_K hF I2.ok.mod.kin J hs hf hfn (run_fn1 (us := [.ref p, u]) (vs := [.ref p, y]) F hr hb hx I2 (.cons rfl (.cons ry .nil)) q) (hsl _ _)
theorem not_ni {z : V} {v : Value} {P : Value → Shared → Prop} {s' : Shared} (r : RelV z v) (h : P v s') : PySem.W.CmpBack P v s' := SlX.cmpback r h
/-- x op y, both instances of the class at C -/
def rBinOwn (C : Addr) (sp : Sp) (E : XK) : R2 := fun x y H Q => ∃ a dx fs b dy gs, x = .ref a ∧ y = .ref b ∧ H a = some (.ins C dx fs) ∧ H b = some (.ins C dy gs) ∧ sp [x, y] H Q E
theorem op_binOwn {op : Operator} (hc : PySem.W.selfFirst X.K C = true) (hs : PySem.W.findIn X.K (.ref C) (PySem.dunder op.info.2) = some (some (.ref g))) (hf : PySem.W.isFn X.K (.ref g) = true) (F : FnOk X.prog X.w X.K X.mg X.base CX n g fd ps sp)
    (hr : Room n X.A) (hb : Binds X.K fd ps []) (hx : Passes CX X E) : OpR X (binaryOp op) (rBinOwn C sp E) := by
  intro pins s σ H x y v u Q I rx ry h
  obtain ⟨a, dx, fs, b, dy, gs, rfl, rfl, ha, hb', q⟩ := h
  cases (show v = Value.ref a from rx)
  cases (show u = Value.ref b from ry)
  obtain ⟨od, J⟩ := ins_inst I ha
  obtain ⟨od', J'⟩ := ins_inst I hb'
  obtain ⟨m, hF⟩ := I.fr
  refine PySem.W.binop_K (op := op) hF I.ok.mod.kin J J'.type hc hs hf ?_
  refine wpAny_mono (run_fn (us := [.ref a, .ref b]) (vs := [.ref a, .ref b]) F hr hb .nil hx I (.cons rfl (.cons rfl .nil)) (by exact q)) (fun w s' z => ?_) fun _ _ x => x
  obtain ⟨z', H', I', rz, qz⟩ := z
  exact not_ni rz ⟨z', H', I', rz, qz⟩
end
end SR
set_option maxRecDepth 100000
set_option maxHeartbeats 4000000
namespace SR
open PySem PySem.Spec PyProof.Rows L2

/-! ### either of two rules -/
section
variable {X : Cx}
theorem OpR.or {f : Value → Value → Sem Value} {r r' : R2} (h : OpR X f r) (h' : OpR X f r') : OpR X f (fun x y H Q => r x y H Q ∨ r' x y H Q) := by
  intro pins s σ H x y v u Q I rx ry q
  rcases q with q | q
  · exact h pins s σ H x y v u Q I rx ry q
  · exact h' pins s σ H x y v u Q I rx ry q
theorem TruR.or {r r' : V → Hp → (Bool → Hp → Prop) → Prop} (h : TruR X r) (h' : TruR X r') : TruR X (fun x H Q => r x H Q ∨ r' x H Q) := by
  intro pins s σ H x v Q I rx q
  rcases q with q | q
  · exact h pins s σ H x v Q I rx q
  · exact h' pins s σ H x v Q I rx q
theorem pi_or {tg iter : Expr} {w1 w2 : TI} (h1 : PI X tg iter w1) (h2 : PI X tg iter w2) : PI X tg iter (fun σ H R => w1 σ H R ∨ w2 σ H R) := by
  refine ⟨fun pins s σ H R I h => ?_⟩
  rcases h with h | h
  · exact h1.run pins s σ H R I h
  · exact h2.run pins s σ H R I h
theorem pg_or {tg : Expr} {g1 g2 : TG} (h1 : PG X tg g1) (h2 : PG X tg g2) : PG X tg (fun v σ H Q => g1 v σ H Q ∨ g2 v σ H Q) := by
  refine ⟨fun pins s σ H v u Q I r h => ?_⟩
  rcases h with h | h
  · exact h1.run pins s σ H v u Q I r h
  · exact h2.run pins s σ H v u Q I r h
theorem pe_or2 {e : Expr} {t1 t2 : TE} (h1 : PE X e t1) (h2 : PE X e t2) : PE X e (fun σ H Q => t1 σ H Q ∨ t2 σ H Q) := by
  refine ⟨fun pins s σ H Q I h => ?_⟩
  rcases h with h | h
  · exact h1.run pins s σ H Q I h
  · exact h2.run pins s σ H Q I h
end

/-! ### tuple(a list), the tuple told as its object; dict(such a tuple of pairs) -/
section
variable {X : Cx}
theorem call_tupleF : CallR X (.type "tuple") (fun xs H Q => ∃ p ys, xs = [.ref p] ∧ SqL X.K H p ys ∧ ∀ l o, H l = none → o.dict = none → Q (.ref l) (upd H l (.frz o (.tup ys)))) := by
  intro pins s σ H xs us Q I r h
  obtain ⟨p, ys, rfl, hq, q⟩ := h
  obtain ⟨u, rfl, rx⟩ := vals1 r
  cases rx
  obtain ⟨its, r', pl, hz⟩ := I.list hq
  have hlen := r'.length
  refine call_tuple_list pl.isList (fun h' kp => ?_) (by simp only [List.size_toArray] <;> omega)
  have I1 : Inv X pins σ H { s with heap := h' } := I.kept (t' := s.toks) kp
  have I2 : Inv X pins σ (upd H h'.objs.size (.frz { cls := .type "tuple", data := .seq its.toArray } (.tup ys))) { s with heap := h'.push { cls := .type "tuple", data := .seq its.toArray } } :=
    I1.laid (t' := s.toks) (fun b o e => Heap.get?_push_of_some _ e) (Nat.le_refl _) (show ObjOk X.prog X.w _ _ _ (.frz _ (.tup ys)) from ⟨Heap.get?_push_size _ rfl, hz, its, r', IsTup.new _ _⟩)
  exact ⟨.ref h'.objs.size, _, I2, rfl, q _ _ (I1.hok.fresh (Nat.le_refl _)) rfl⟩
theorem pairs_two {pins : List (Addr × Obj)} {σ : L2.St} {H : Hp} {s : Shared} (I : Inv X pins σ H s) : ∀ {ps : List Addr} {kvs : List (Key × V)}, Paired (fun p kv => SqT X.K H p [kV kv.1, kv.2]) ps kvs →
    ∃ (prs : List (Key × Value)) (us : List (Value × Value)), KV kvs prs ∧ prs.length = ps.length ∧ us.length = ps.length ∧ ∀ (j : Nat) (k v : Value), us[j]? = some (k, v) → ∃ (b : Addr) (kk : Key), ps[j]? = some b ∧ prs[j]? = some (kk, v) ∧ IsTup s.heap b #[k, v] ∧ keyIs kk k = true
  | _, _, .nil => ⟨[], [], .nil, rfl, rfl, fun j k v e => by simp at e⟩
  | _, _, .cons (a := p) (b := kv) h t => by
    obtain ⟨prs, us, r, hl, hl2, hp⟩ := pairs_two I t
    obtain ⟨its, rv, ht, _⟩ := I.tuple h
    obtain ⟨u, y, ei, ru, ry⟩ := vals2 rv
    subst ei
    refine ⟨(kv.1, y) :: prs, (u, y) :: us, .cons ⟨rfl, ry⟩ r, by rw [List.length_cons, List.length_cons, hl], by rw [List.length_cons, List.length_cons, hl2], fun j k v e => ?_⟩
    cases j with
    | zero =>
      have e' : (u, y) = (k, v) := Option.some.inj e
      injection e' with e1 e2
      subst e1 e2
      refine ⟨p, kv.1, rfl, rfl, ht, ?_⟩
      cases hk : kv.1 with
      | inl i =>
        rw [hk] at ru
        obtain ⟨t, e⟩ := (show ∃ t, u = Value.int i t from ru)
        rw [e]
        exact keyIs_int i t
      | inr z =>
        rw [hk] at ru
        obtain ⟨t, e⟩ := (show ∃ t, u = Value.str z t from ru)
        rw [e]
        exact keyIs_str z t
    | succ j =>
      obtain ⟨b, kk, e1, e2, e3, e4⟩ := hp j k v (by simpa using e)
      exact ⟨b, kk, by simpa using e1, by simpa using e2, e3, e4⟩
theorem call_dictT (hcalm : X.calm = true) : CallR X (.type "dict") (fun xs H Q => ∃ (a : Addr) (o : Obj) (ps : List Addr) (kvs : List (Key × V)), xs = [.ref a] ∧ o.dict = none ∧ H a = some (.frz o (.tup (ps.map V.ref))) ∧ Paired (fun p kv => SqT X.K H p [kV kv.1, kv.2]) ps kvs ∧
    ∀ p, H p = none → Q (.ref p) (upd H p (.dK (mergeK [] kvs)))) := by
  intro pins s σ H xs us Q I r q
  obtain ⟨a, o, ps, kvs, ex, hod, hq, hp, q⟩ := q
  subst ex
  obtain ⟨u, eu, rx⟩ := vals1 r
  subst eu
  cases rx
  obtain ⟨ho, hz, its, rv, o', ho', hc, n, hdat⟩ := (show ObjOk X.prog X.w H s.heap a (.frz o (.tup (ps.map V.ref))) from I.hok a _ hq)
  obtain rfl : o = o' := Option.some.inj (ho.symm.trans ho')
  have ei := refs_at rv
  subst ei
  rw [List.length_map] at hz
  obtain ⟨prs, us, rel, hl, hl2, hpr⟩ := pairs_two I hp
  have hkl : prs.length = kvs.length := rel.length.symm
  refine PySem.call_dict_pairs (knd := mixKind X.prog X.w) (kvs := prs) (PairArg.tuple a (ps.map Value.ref).toArray (fun j => ps.getD j 0) us) (I.ok.hd hcalm) ⟨⟨o, n, ho, hc, hod, hdat⟩, ?_⟩ ⟨?_, ?_⟩ (by rw [hl2]; exact hz) fun h' tk hd' k => ?_
  · refine ⟨by simp [hl2], fun j k v e => ?_⟩
    obtain ⟨b, kk, e1, e2, e3, e4⟩ := hpr j k v e
    have e5 : ps.getD j 0 = b := by simp [List.getD, e1]
    show (List.map Value.ref ps).toArray[j]? = some (Value.ref (ps.getD j 0)) ∧ PairAt s.heap (ps.getD j 0) k v
    rw [e5]
    exact ⟨by simp [e1], Or.inl e3⟩
  · rw [hl, hl2]
  · intro i key v e
    obtain ⟨b, kk, e1, e2, e3, e4⟩ := hpr i key v e
    exact ⟨kk, e2, e4⟩
  · have hm : (s.heap.objs.size == sysModules) = false := beq_eq_false_iff_ne.mpr (Nat.ne_of_gt I.big)
    have hlen : (mergeK [] kvs).length ≤ sizeLine := by
      refine Nat.le_trans (length_mergeK kvs []) ?_
      rw [List.length_nil, Nat.zero_add, rel.length, hl]
      exact hz
    exact ⟨.ref s.heap.objs.size, upd H s.heap.objs.size (.dK (mergeK [] kvs)), I.laid (t' := tk) (fun b ob e => k b ob (fun z => nomatch z) e) (Nat.le_refl _) (show ObjOk X.prog X.w _ _ _ (.dK (mergeK [] kvs)) from ⟨hlen, hm, merged [] prs, KV.merge rel .nil, hd'⟩), rfl, q _ (I.hok.fresh (Nat.le_refl _))⟩
end

/-! ### enumerate(a tuple) -/
theorem meets_enumerate_new1 {v : Value} {o : Obj} {Hh : Heap → Prop} (B : Begins v o Hh) :
    Meets (Builtin.«enumerate.__new__» ⟨[.type "enumerate", v], []⟩) (fun _ R s => Hh s.heap ∧
      R (.ok (.ret (.ref (s.heap.push o).objs.size))) { s with heap := (s.heap.push o).push { cls := .type "enumerate", data := .fields #[.none, .bool false, .ref s.heap.objs.size, rawInt 0, .none, .none] } }) :=
  .of_wp fun prog w A R s h => by
    obtain ⟨hp, g, d, tk, os⟩ := s; obtain ⟨h1, h⟩ := h
    have hsub := sub_enumerate
    have q1 : ∀ {A' : Around} {E : Value → Shared → Prop} {Q : Value → Shared → Prop}, Q (.ref hp.objs.size) ⟨hp.push o, g, d, tk, os⟩ → wpAny (model prog w) A' (pyIter v) Q E ⟨hp, g, d, tk, os⟩ :=
      fun q => B.iter prog w _ _ ⟨hp, g, d, tk, os⟩ _ h1 q
    wp_walk using q1
    refine wpAny_stack_any fun st => wpAny_pure ?_
    split
    · rename_i c _ _ _ _ _
      cases (c == Value.type "enumerate")
      · wp_walk using q1
        exact ⟨_, rfl, h⟩
      · wp_walk using q1
        exact ⟨_, rfl, h⟩
    · wp_walk using q1
      exact ⟨_, rfl, h⟩
section
variable {prog : Program} {w : World} {A : Around} {E : Value → Shared → Prop} {s : Shared}
theorem enum_begins1 {v : Value} {o : Obj} {Hh : Heap → Prop} {Q : Value → Shared → Prop} (B : Begins v o Hh) (h1 : Hh s.heap)
    (h : ∀ h', IsEnum h' (s.heap.objs.size + 1) s.heap.objs.size 0 .none → h'.get? s.heap.objs.size = some o → h'.objs.size = s.heap.objs.size + 2 →
      (∀ b o, s.heap.get? b = some o → h'.get? b = some o) → Q (.ref (s.heap.objs.size + 1)) { s with heap := h' }) :
    wpAny (model prog w) A (call (.type "enumerate") [v]) Q E s := by
  refine callType_new F.called_enumerate (by decide) (F.typeCall_enumerate_1 _) (F.newCall_enumerate_1 _) (fun obj => F.args_object_init_2 obj _) F.entry_enumerate_new
    (meets_enumerate_new1 B) ⟨h1, ?_⟩
  have hz : (s.heap.push o).objs.size = s.heap.objs.size + 1 := Heap.size_push ..
  show _ ∧ _
  rw [hz]
  have he : IsEnum ((s.heap.push o).push { cls := .type "enumerate", data := .fields #[.none, .bool false, .ref s.heap.objs.size, rawInt 0, .none, .none] }) (s.heap.objs.size + 1) s.heap.objs.size 0 .none := by
    have := Heap.get?_push_size (s.heap.push o) (o := { cls := .type "enumerate", data := .fields #[.none, .bool false, .ref s.heap.objs.size, rawInt 0, .none, .none] }) rfl
    rw [hz] at this; exact this
  refine ⟨⟨_, he, rfl⟩, h _ he (Heap.get?_push_of_some _ (Heap.get?_push_size _ B.free)) (by rw [Heap.size_push, hz]) fun b o x => Heap.get?_push_of_some _ (Heap.get?_push_of_some _ x)⟩
end
/-- the tuple at a, each item in a new pair -/
def IteT (K : PySem.W.Frag) (a : Addr) (xs : List V) : It :=
  ⟨fun i H => SqT K H a xs ∧ i < xs.length, fun i H v H' => ∃ T x, v = .ref T ∧ H T = none ∧ H' = upd H T (.tup [.int (i : Nat), x]) ∧ xs[i]? = some x, fun i H => SqT K H a xs ∧ xs.length ≤ i⟩
theorem turn_enumT {P : Program} {w : World} {K : PySem.W.Frag} {elts : List Expr} {kk : Nat} {tpos : Pos} (a e it : Addr) (xs : List V) :
    Turn P w K (.Tuple elts kk tpos) (IteT K a xs) [e, it] e (fun i h => (∃ old, IsEnum h e it ((i : Nat) : Int) old) ∧ h.IsTupleIter it a i ∧ e ≠ it ∧ i ≤ xs.length) where
  mem := by simp
  obj := fun i h st b hb => by
    obtain ⟨⟨old, he⟩, ⟨o, ho, hc, hd⟩, _⟩ := st
    have e' : b = e ∨ b = it := by simpa using hb
    rcases e' with z | z
    · rw [z]; exact ⟨_, he, fun v q => nomatch q⟩
    · rw [z]; exact ⟨o, ho, fun v q => by rw [hd] at q; cases q⟩
  keep := fun i h h' st k => let ⟨⟨old, he⟩, hi, hne⟩ := st; ⟨⟨old, k e (by simp) _ he⟩, hi.at fun o q => k it (by simp) o q, hne⟩
  item := by
    intro X hP hw hK hc i pins s σ H E I hf st hg
    subst hP hw hK
    obtain ⟨⟨old, he⟩, hit, hne, hile⟩ := st
    obtain ⟨hq, hlt⟩ := hg
    obtain ⟨its, rv, p, hz⟩ := I.tuple hq
    have hT : s.heap.IsTuple a its.toArray := p
    have hlen := rv.length
    have hel : e < s.heap.objs.size := Heap.lt_size he
    have hil : it < s.heap.objs.size := by obtain ⟨_, q, _⟩ := hit; exact Heap.lt_size q
    have hai : a ≠ it := by
      intro z
      subst z
      obtain ⟨o1, q1, c1, _⟩ := hit
      obtain ⟨o2, q2, c2, _⟩ := hT
      rw [q1] at q2
      cases q2
      rw [c1] at c2
      exact absurd c2 (by decide)
    have hea : e ≠ a := by
      intro z
      subst z
      obtain ⟨o2, q2, c2, _⟩ := hT
      rw [he] at q2
      have q3 := Option.some.inj q2
      subst q3
      exact absurd c2 (show ¬ (Value.type "enumerate" = Value.type "tuple") by decide)
    have D := Draws.tuple (prog := X.prog) (w := X.w) (A := X.A.in1) (by show X.A.handled = none; exact I.ok.hd hc) it a hai its.toArray
    refine wpAny_pyNext_enum_itemD D he ⟨hit, hT⟩ (by simp; omega) hne (by simp [hne, hea]) fun u h' tk hu ho hst' hTT hsz hk => ?_
    obtain ⟨x, hx⟩ : ∃ x, xs[i]? = some x := ⟨xs[i], List.getElem?_eq_getElem hlt⟩
    obtain ⟨u', hu', ru⟩ := rv.get hx
    have eu : u = u' := by
      have z : its.toArray[i]? = some u := hu
      rw [List.getElem?_toArray, hu'] at z
      exact (Option.some.inj z).symm
    subst eu
    refine ⟨_, rfl, wpAny_letOwnedTupleGo_enum (s := { s with heap := h', toks := tk + 1 }) ho fun h'' he' sb => ?_⟩
    have hT2 : h''.get? s.heap.objs.size = some { cls := .type "tuple", data := .seq #[.int i tk, u] } := (sb.2 _ (Nat.ne_of_gt hel)).trans hTT
    have new : ObjOk X.prog X.w (upd H s.heap.objs.size (.tup [.int (i : Nat), x])) h'' s.heap.objs.size (.tup [.int (i : Nat), x]) :=
      ⟨by show 2 ≤ sizeLine; decide, [.int i tk, u], .cons ⟨_, rfl⟩ (.cons ru .nil), ⟨_, hT2, rfl, _, rfl⟩⟩
    have I1 : Inv X pins σ (upd H s.heap.objs.size (.tup [.int (i : Nat), x])) { s with heap := h'', toks := tk + 1 } :=
      I.turnedNew (ch := [e, it]) (fun b ob hb q => (sb.2 b (fun z => hb (by simp [z]))).trans (hk b ob (fun z => hb (by simp [z])) (fun z => hb (by simp [z])) q)) hf (Nat.le_refl _) new
    refine ⟨.ref s.heap.objs.size, _, I1, rfl, ⟨_, x, rfl, I.hok.fresh (Nat.le_refl _), rfl, hx⟩, ⟨⟨u, ?_⟩, hst'.1.at fun o q => (sb.2 it (Ne.symm hne)).trans q, hne, hlt⟩, fun b hb => ?_⟩
    · have e1 : ((i + 1 : Nat) : Int) = (i : Int) + 1 := by omega
      rw [e1]; exact he'
    · have hb' : b < s.heap.objs.size := by
        have e' : b = e ∨ b = it := by simpa using hb
        rcases e' with z | z
        · rw [z]; exact hel
        · rw [z]; exact hil
      rw [upd_ne (Nat.ne_of_lt hb')]
      exact (hf b hb).1
  done := by
    intro X hP hw hK hc i pins s σ H E I hf st hg
    subst hP hw hK
    obtain ⟨⟨old, he⟩, hit, hne, hile⟩ := st
    obtain ⟨hq, hx⟩ := hg
    obtain ⟨its, rv, p, hz⟩ := I.tuple hq
    have hT : s.heap.IsTuple a its.toArray := p
    obtain ⟨f0, f1, f2, f3, f4, f5⟩ := hf it (by simp)
    have hl := rv.length
    have hai : a ≠ it := by
      intro z
      subst z
      obtain ⟨o1, q1, c1, _⟩ := hit
      obtain ⟨o2, q2, c2, _⟩ := hT
      rw [q1] at q2
      cases q2
      rw [c1] at c2
      exact absurd c2 (by decide)
    have D := Draws.tuple (prog := X.prog) (w := X.w) (A := X.A.in1) (by show X.A.handled = none; exact I.ok.hd hc) it a hai its.toArray
    have ei : i = its.toArray.size := by simp; omega
    subst ei
    exact wpAny_pyNext_enum_endD D he ⟨hit, hT⟩ fun h' eb => ⟨rfl, I.turned (t' := s.toks) (fun b o hb q => eb b o hb q) f0 f1 f3 f4 f5⟩
  self := fun A i s Q E st h => let ⟨⟨_, he⟩, _⟩ := st; wpAny_pyIter_enum he h
def iEnumT (K : PySem.W.Frag) (ta : TA) : TI := fun σ H R => ta σ H fun vs H1 => ∃ a xs, vs = [.ref a] ∧ SqT K H1 a xs ∧ R (IteT K a xs) H1
theorem pi_enumT {X : Cx} {e : Expr} {ta : TA} {p pos tpos : Pos} {elts : List Expr} {kk : Nat} (hg : Gl X "enumerate") (hm : X.mg "enumerate" = none) (ha : PA X [e] ta) (hs : starEach [e] X.env = [(false, eval e X.env)] := by rfl) :
    PI X (.Tuple elts kk tpos) (.Call (.Name "enumerate" p) [e] [] pos) (iEnumT X.K ta) := by
  refine ⟨fun pins s σ H R I h => ?_⟩
  refine Call_ (ld_blt I hg hm boot_enumerate (PyProof.Rows.callWith_type1 (thn (ha.run pos pins s σ H _ I h) fun us s1 ⟨vs, H1, I1, r1, q1⟩ => ?_) hs rfl))
  obtain ⟨a, xs, ex, hq, q⟩ := q1
  subst ex
  cases r1 with
  | cons r rr =>
    cases rr
    cases r
    obtain ⟨its, rv, p', hz⟩ := I1.tuple hq
    refine enum_begins1 (begins_tuple a its.toArray) p' fun h' he hit hsz hk => wpAny_pyIter_enum he ?_
    have I2 : Inv X pins σ H1 { s1 with heap := h' } := I1.kept (t' := s1.toks) hk
    refine ⟨s1.heap.objs.size + 1, [s1.heap.objs.size + 1, s1.heap.objs.size], _, _, H1, rfl, I2, turn_enumT a (s1.heap.objs.size + 1) s1.heap.objs.size xs, ⟨⟨.none, he⟩, ⟨_, hit, rfl, rfl⟩, Nat.succ_ne_self _, Nat.zero_le _⟩, fun b hb => ?_, q⟩
    have e' : b = s1.heap.objs.size + 1 ∨ b = s1.heap.objs.size := by simpa using hb
    have hle : s1.heap.objs.size ≤ b := by
      rcases e' with z | z
      · rw [z]; exact Nat.le_add_right _ _
      · rw [z]; exact Nat.le_refl _
    exact I1.fpOk hle (I1.hok.fresh hle)

/-! ### cls(e, ..), a local name that holds the class -/
section
variable {X : Cx} {CX : CXT} {k : Nat} {f C : Addr} {fd : FuncData} {ps : List Str} {sp : Sp} {dvs : List V} {ds : List Value} {E : XK} {x : Str} {p pos : Pos} {e : Expr} {es : List Expr} {t : TA} {i : Nat}
def tMakeL (i : Nat) (C : Addr) (sp : Sp) (dvs : List V) (E : XK) (t : TA) : TE := fun σ H Q => σ[i]? = some (some (.ref C)) ∧ tMake C sp dvs E t σ H Q
theorem pe_makeL (M : Mk X.K C f) (F : FnOk X.prog X.w X.K X.mg X.base CX k f fd ps sp) (hr : Room (k + 1) X.A) (hN : X.N[i]? = some x) (hv : Vis X.env.scope x) (hb : Binds X.K fd ps ds) (hd : Vals dvs ds) (hx : Passes CX X E)
    (ha : PA X (e :: es) t) (hdb : (x == ("__debug__" : Str)) = false := by decide) (hcd : (x == ("__classdict__" : Str)) = false := by decide) (he : starEach (e :: es) X.env = (false, eval e X.env) :: starEach es X.env := by rfl) (hpl : (backTo pos (starEach es X.env)).any (·.1) = false := by rfl) :
    PE X (.Call (.Name x p) (e :: es) [] pos) (tMakeL i C sp dvs E t) := by
  refine ⟨fun pins s σ H Q I h => ?_⟩
  obtain ⟨hs, ht⟩ := h
  refine wpAny_Call_Name_kw (thn ((pe_var (pos := p) hN hv hdb hcd).run pins s σ H (fun v H1 => v = .ref C ∧ H1 = H) I ⟨.ref C, hs, rfl, rfl⟩) fun u s1 ⟨v, H1, I1, r1, q1⟩ => ?_)
  obtain ⟨rfl, rfl⟩ := q1
  cases r1
  refine PySem.W.callWith_K (h₀ := X.base) I.ok.mod.kin M.kp (thn (ha.run pos pins s1 σ _ _ I1 ht) fun us s2 ⟨vs, H2, I2, r, q⟩ => ⟨I2.kIn, ?_⟩) he hpl
  exact run_make M F hr hb hd hx I2 r q
end
end SR
set_option maxRecDepth 100000
set_option maxHeartbeats 4000000
/-! What a value stands for: data of any depth, objects told by what they hold. -/
namespace SR
open PySem PySem.Spec PyProof.Rows L2 Evl

/-- a dict of ints, its pairs in order -/
def kvI (m : List (Int × Int)) : List (Key × V) := m.map fun q => (Sum.inl q.1, V.int q.2)
inductive D (ω : Type) where
  | non | bl (b : Bool) | int (i : Int) | str (x : Str) | lst (l : List (D ω)) | tup (l : List (D ω)) | dic (m : List (Int × Int)) | obj (w : ω)

/-- what an object of the program's own holds -/
structure OI (ω : Type) where
  at_ : Hp → Addr → ω → Prop
  mono : ∀ {H H' a w}, Ex H H' → at_ H a w → at_ H' a w

section
variable {ω : Type} (K : PySem.W.Frag) (O : OI ω) (H : Hp)
mutual
def At : D ω → V → Prop
  | .non, v => v = .non
  | .bl b, v => v = .bl b
  | .int i, v => v = .int i
  | .str x, v => v = .str x
  | .lst l, v => ∃ a vs, v = .ref a ∧ H a = some (.lst vs) ∧ AtL l vs
  | .tup l, v => ∃ a vs, v = .ref a ∧ SqT K H a vs ∧ AtL l vs
  | .dic m, v => ∃ a, v = .ref a ∧ H a = some (.dK (kvI m))
  | .obj w, v => ∃ a, v = .ref a ∧ O.at_ H a w
def AtL : List (D ω) → List V → Prop
  | [], vs => vs = []
  | d :: l, vs => ∃ v r, vs = v :: r ∧ At d v ∧ AtL l r
end
end
section
variable {ω : Type} {K : PySem.W.Frag} {O : OI ω} {H H' : Hp}
mutual
theorem At.mono (e : Ex H H') : ∀ {d : D ω} {v : V}, At K O H d v → At K O H' d v
  | .non, v, h => by simp only [At] at h ⊢; exact h
  | .bl b, v, h => by simp only [At] at h ⊢; exact h
  | .int i, v, h => by simp only [At] at h ⊢; exact h
  | .str x, v, h => by simp only [At] at h ⊢; exact h
  | .lst l, v, h => by
    simp only [At] at h ⊢
    obtain ⟨a, vs, e1, e2, e3⟩ := h
    exact ⟨a, vs, e1, e _ _ e2, AtL.mono e e3⟩
  | .tup l, v, h => by
    simp only [At] at h ⊢
    obtain ⟨a, vs, e1, e2, e3⟩ := h
    exact ⟨a, vs, e1, ex_t e e2, AtL.mono e e3⟩
  | .dic m, v, h => by
    simp only [At] at h ⊢
    obtain ⟨a, e1, e2⟩ := h
    exact ⟨a, e1, e _ _ e2⟩
  | .obj w, v, h => by
    simp only [At] at h ⊢
    obtain ⟨a, e1, e2⟩ := h
    exact ⟨a, e1, O.mono e e2⟩
theorem AtL.mono (e : Ex H H') : ∀ {l : List (D ω)} {vs : List V}, AtL K O H l vs → AtL K O H' l vs
  | [], vs, h => by simp only [AtL] at h ⊢; exact h
  | d :: l, vs, h => by
    simp only [AtL] at h ⊢
    obtain ⟨v, r, e1, e2, e3⟩ := h
    exact ⟨v, r, e1, At.mono e e2, AtL.mono e e3⟩
end
@[simp] theorem at_non {v : V} : At K O H .non v ↔ v = .non := by simp only [At]
@[simp] theorem at_bl {b : Bool} {v : V} : At K O H (.bl b) v ↔ v = .bl b := by simp only [At]
@[simp] theorem at_int {i : Int} {v : V} : At K O H (.int i) v ↔ v = .int i := by simp only [At]
@[simp] theorem at_str {x : Str} {v : V} : At K O H (.str x) v ↔ v = .str x := by simp only [At]
theorem at_lst {l : List (D ω)} {v : V} : At K O H (.lst l) v ↔ ∃ a vs, v = .ref a ∧ H a = some (.lst vs) ∧ AtL K O H l vs := by simp only [At]
theorem at_tup {l : List (D ω)} {v : V} : At K O H (.tup l) v ↔ ∃ a vs, v = .ref a ∧ SqT K H a vs ∧ AtL K O H l vs := by simp only [At]
theorem at_dic {m : List (Int × Int)} {v : V} : At K O H (.dic m) v ↔ ∃ a, v = .ref a ∧ H a = some (.dK (kvI m)) := by simp only [At]
theorem at_obj {w : ω} {v : V} : At K O H (.obj w) v ↔ ∃ a, v = .ref a ∧ O.at_ H a w := by simp only [At]
theorem atL_nil {vs : List V} : AtL K O H [] vs ↔ vs = [] := by simp only [AtL]
theorem atL_cons {d : D ω} {l : List (D ω)} {vs : List V} : AtL K O H (d :: l) vs ↔ ∃ v r, vs = v :: r ∧ At K O H d v ∧ AtL K O H l r := by simp only [AtL]
theorem AtL.len : ∀ {l : List (D ω)} {vs : List V}, AtL K O H l vs → vs.length = l.length
  | [], vs, h => by rw [atL_nil] at h; subst h; rfl
  | d :: l, vs, h => by
    obtain ⟨v, r, rfl, _, h3⟩ := atL_cons.mp h
    rw [List.length_cons, List.length_cons, AtL.len h3]
theorem AtL.get : ∀ {l : List (D ω)} {vs : List V} {i : Nat} {v : V}, AtL K O H l vs → vs[i]? = some v → ∃ d, l[i]? = some d ∧ At K O H d v
  | [], vs, i, v, h, e => by rw [atL_nil] at h; subst h; simp at e
  | d :: l, vs, i, v, h, e => by
    obtain ⟨w, r, rfl, h2, h3⟩ := atL_cons.mp h
    cases i with
    | zero =>
      have e' : w = v := Option.some.inj e
      subst e'
      exact ⟨d, rfl, h2⟩
    | succ i => exact AtL.get (i := i) h3 (by simpa using e)
theorem AtL.get' {l : List (D ω)} {vs : List V} {i : Nat} {d : D ω} (h : AtL K O H l vs) (e : l[i]? = some d) : ∃ v, vs[i]? = some v ∧ At K O H d v := by
  have hl := h.len
  have hi : i < l.length := (List.getElem?_eq_some_iff.mp e).1
  have e2 : vs[i]? = some vs[i] := List.getElem?_eq_getElem (by omega)
  obtain ⟨d', e3, e4⟩ := h.get e2
  rw [e] at e3
  cases e3
  exact ⟨_, e2, e4⟩
theorem AtL.app : ∀ {l m : List (D ω)} {vs ws : List V}, AtL K O H l vs → AtL K O H m ws → AtL K O H (l ++ m) (vs ++ ws)
  | [], m, vs, ws, h, g => by rw [atL_nil] at h; subst h; exact g
  | d :: l, m, vs, ws, h, g => by
    obtain ⟨w, r, rfl, h2, h3⟩ := atL_cons.mp h
    exact atL_cons.mpr ⟨w, r ++ ws, rfl, h2, AtL.app h3 g⟩
theorem AtL.one {d : D ω} {v : V} (h : At K O H d v) : AtL K O H [d] [v] := atL_cons.mpr ⟨v, [], rfl, h, atL_nil.mpr rfl⟩
theorem AtL.ints : ∀ {ns : List Int}, AtL K O H (ns.map D.int) (ns.map V.int)
  | [] => atL_nil.mpr rfl
  | n :: r => atL_cons.mpr ⟨_, _, rfl, at_int.mpr rfl, AtL.ints⟩
theorem AtL.ints' : ∀ {ns : List Int} {vs : List V}, AtL K O H (ns.map D.int) vs → vs = ns.map V.int
  | [], vs, h => atL_nil.mp h
  | n :: r, vs, h => by
    obtain ⟨v, w, rfl, h2, h3⟩ := atL_cons.mp h
    rw [at_int.mp h2, AtL.ints' h3]
    rfl
/-- the type that isinstance sees -/
theorem tyL {a : Addr} {vs : List V} (h : SqL K H a vs) : TyX K H (.ref a) (.type "list") := by
  rcases h with (h | ⟨o, h⟩) | ⟨o, its, n, h1, h2, _⟩
  · exact .base (.lst h)
  · exact .base (.frz h)
  · exact .kList h1 h2
theorem tyT {a : Addr} {vs : List V} (h : SqT K H a vs) : TyX K H (.ref a) (.type "tuple") := by
  rcases h with (h | ⟨o, h⟩) | ⟨o, its, n, h1, h2, _⟩
  · exact .base (.tup h)
  · exact .fTuple h
  · exact .kTuple h1 h2
/-- .. of data; T: of objects -/
def tyD (T : ω → Value) : D ω → Value
  | .non => .type "NoneType" | .bl _ => .type "bool" | .int _ => .type "int" | .str _ => .type "str" | .lst _ => .type "list" | .tup _ => .type "tuple" | .dic _ => .type "dict" | .obj w => T w
theorem ty_of {T : ω → Value} (hT : ∀ H a w, O.at_ H a w → TyX K H (.ref a) (T w)) {d : D ω} {v : V} (h : At K O H d v) : TyX K H v (tyD T d) := by
  cases d with
  | non => rw [at_non] at h; subst h; exact .base .non
  | bl b => rw [at_bl] at h; subst h; exact .base (.bl b)
  | int i => rw [at_int] at h; subst h; exact .base (.int i)
  | str x => rw [at_str] at h; subst h; exact .base (.str x)
  | lst l => obtain ⟨a, vs, rfl, h2, _⟩ := at_lst.mp h; exact tyL (sq_of h2)
  | tup l => obtain ⟨a, vs, rfl, h2, _⟩ := at_tup.mp h; exact tyT h2
  | dic m => obtain ⟨a, rfl, h2⟩ := at_dic.mp h; exact .base (.dK h2)
  | obj w => obtain ⟨a, rfl, h2⟩ := at_obj.mp h; exact hT _ _ _ h2
end
end SR
set_option maxRecDepth 100000
set_option maxHeartbeats 4000000
/-! Defs, methods, classes by what they promise, without their addresses. -/
namespace SR
open PySem PySem.Spec PyProof.Rows L2 Evl

/-- the built-in names that the module leaves as they are -/
structure Bi (mg : Str → Option Value) : Prop where
  len : mg "len" = none
  isinstance : mg "isinstance" = none
  int : mg "int" = none
  bool : mg "bool" = none
  list : mg "list" = none
  tuple : mg "tuple" = none
  dict : mg "dict" = none
  sorted : mg "sorted" = none
  enumerate : mg "enumerate" = none
  zip : mg "zip" = none
  range : mg "range" = none
  all : mg "all" = none
  any : mg "any" = none
  reversed : mg "reversed" = none
  sum : mg "sum" = none
  min : mg "min" = none
  max : mg "max" = none
  abs : mg "abs" = none

section
variable (P : Program) (w : World) (K : PySem.W.Frag) (mg : Str → Option Value) (base : Heap)
structure DefOk (k : Nat) (x : Str) (ps : List Str) (sp : Sp) : Prop where
  ex : ∃ f fd, mg x = some (.ref f) ∧ PySem.W.keepIn K (.ref f) = true ∧ Binds K fd ps [] ∧ FnOk P w K mg base CX0 k f fd ps sp
/-- .. its last parameters filled by the defaults ds -/
structure DefOkD (k : Nat) (x : Str) (ps : List Str) (dvs : List V) (sp : Sp) : Prop where
  ex : ∃ f fd ds, mg x = some (.ref f) ∧ PySem.W.keepIn K (.ref f) = true ∧ Binds K fd ps ds ∧ Vals dvs ds ∧ FnOk P w K mg base CX0 k f fd ps sp
structure MethOk (C : Addr) (k : Nat) (m : Str) (ps : List Str) (sp : Sp) : Prop where
  ex : ∃ f fd, Meth K C m f ∧ Binds K fd ps [] ∧ FnOk P w K mg base CX0 k f fd ps sp
structure MakeOk (C : Addr) (k : Nat) (x : Str) (ps : List Str) (dvs : List V) (sp : Sp) : Prop where
  ex : ∃ f fd ds, Mk K C f ∧ mg x = some (.ref C) ∧ Binds K fd ps ds ∧ Vals dvs ds ∧ FnOk P w K mg base CX0 k f fd ps sp
end
section
variable {P : Program} {w : World} {K : PySem.W.Frag} {mg : Str → Option Value} {base : Heap}
theorem defOk {x qual : Str} {st : Stmt} {f : Addr} {fd : FuncData} {ps : List Str} {k : Nat} {sp : Sp} (F : Fun K x qual st f fd) (hm : mg x = some (.ref f)) (G : FnOk P w K mg base CX0 k f fd ps sp) (b : Binds K fd ps []) : DefOk P w K mg base k x ps sp := ⟨f, fd, hm, F.kp, b, G⟩
end
section
variable {X : Cx} {k : Nat} {C : Addr} {ps : List Str} {sp : Sp} {dvs : List V} {x m : Str} {p pos apos : Pos} {e o : Expr} {es : List Expr} {ta : TE} {t : TA}
theorem pe_callD (h : DefOk X.prog X.w X.K X.mg X.base k x ps sp) (hr : Room k X.A) (ha : PA X (e :: es) t) (hg : Gl X x := by rfl) (hdb : (x == ("__debug__" : Str)) = false := by decide)
    (he : starEach (e :: es) X.env = (false, eval e X.env) :: starEach es X.env := by rfl) (hpl : (backTo pos (starEach es X.env)).any (·.1) = false := by rfl) : PE X (.Call (.Name x p) (e :: es) [] pos) (tCall sp [] E0 t) := by
  obtain ⟨f, fd, hm, hk, hb, F⟩ := h.ex
  exact pe_call F hr hg hm hk hb .nil pass0 ha hdb he hpl
theorem pe_callD0 (h : DefOk X.prog X.w X.K X.mg X.base k x ps sp) (hr : Room k X.A) (hg : Gl X x := by rfl) (hdb : (x == ("__debug__" : Str)) = false := by decide) : PE X (.Call (.Name x p) [] [] pos) (tCall sp [] E0 tNil) := by
  obtain ⟨f, fd, hm, hk, hb, F⟩ := h.ex
  exact pe_call0 F hr hg hm hk hb .nil pass0 hdb
theorem pe_methD {pl : Sem Bool} (c : Cls X.K C) (h : MethOk X.prog X.w X.K X.mg X.base C k m ps sp) (hr : Room k X.A) (he : PE X o ta) (ha : PA X (e :: es) t)
    (hst : starEach (e :: es) X.env = (false, eval e X.env) :: starEach es X.env := by rfl) (hpl : (backTo pos (starEach es X.env)).any (·.1) = false := by rfl)
    (ht : eval (.Call (.Attribute o m apos) (e :: es) [] pos) X.env = (do
      let ov ← eval o X.env
      standAt apos.atName
      let (f, first) ← holding [ov] (getMethod ov m pl)
      callWith pos f first (backTo pos (starEach (e :: es) X.env)) (backToKw pos (keywordEach [] X.env))) := by rfl) :
    PE X (.Call (.Attribute o m apos) (e :: es) [] pos) (tMeth C m sp [] E0 ta t) := by
  obtain ⟨f, fd, hm, hb, F⟩ := h.ex
  exact pe_meth he c hm F hr hb .nil pass0 ha hst hpl ht
theorem pe_methD0 {pl : Sem Bool} (c : Cls X.K C) (h : MethOk X.prog X.w X.K X.mg X.base C k m ps sp) (hr : Room k X.A) (he : PE X o ta)
    (ht : eval (.Call (.Attribute o m apos) [] [] pos) X.env = (do
      let ov ← eval o X.env
      standAt apos.atName
      let (f, first) ← holding [ov] (getMethod ov m pl)
      callWith pos f first (backTo pos (starEach [] X.env)) (backToKw pos (keywordEach [] X.env))) := by rfl) :
    PE X (.Call (.Attribute o m apos) [] [] pos) (tMeth C m sp [] E0 ta tNil) := by
  obtain ⟨f, fd, hm, hb, F⟩ := h.ex
  exact pe_meth0 he c hm F hr hb .nil pass0 ht
theorem pe_makeD (h : MakeOk X.prog X.w X.K X.mg X.base C k x ps dvs sp) (hr : Room (k + 1) X.A) (ha : PA X (e :: es) t) (hg : Gl X x := by rfl) (hdb : (x == ("__debug__" : Str)) = false := by decide)
    (he : starEach (e :: es) X.env = (false, eval e X.env) :: starEach es X.env := by rfl) (hpl : (backTo pos (starEach es X.env)).any (·.1) = false := by rfl) : PE X (.Call (.Name x p) (e :: es) [] pos) (tMake C sp dvs E0 t) := by
  obtain ⟨f, fd, ds, M, hm, hb, hd, F⟩ := h.ex
  exact pe_make M F hr hg hm hb hd pass0 ha hdb he hpl
theorem pe_makeDL {i : Nat} (h : MakeOk X.prog X.w X.K X.mg X.base C k x ps dvs sp) {y : Str} (hr : Room (k + 1) X.A) (ha : PA X (e :: es) t) (hN : X.N[i]? = some y := by rfl) (hv : Vis X.env.scope y := by first | exact Or.inl rfl | exact Or.inr (Or.inl rfl)) (hdb : (y == ("__debug__" : Str)) = false := by decide) (hcd : (y == ("__classdict__" : Str)) = false := by decide)
    (he : starEach (e :: es) X.env = (false, eval e X.env) :: starEach es X.env := by rfl) (hpl : (backTo pos (starEach es X.env)).any (·.1) = false := by rfl) : PE X (.Call (.Name y p) (e :: es) [] pos) (tMakeL i C sp dvs E0 t) := by
  obtain ⟨f, fd, ds, M, hm, hb, hd, F⟩ := h.ex
  exact pe_makeL M F hr hN hv hb hd pass0 ha hdb hcd he hpl
end
end SR
set_option maxRecDepth 100000
set_option maxHeartbeats 4000000
/-! Readings over a known part G of the heap H: what is in G stays; what a def is still filling stands in H alone. -/
namespace SR
open PySem PySem.Spec PyProof.Rows L2 Evl

/-- from (G, H) to (G', H') -/
structure Le (G H G' H' : Hp) : Prop where
  h : Ex H H'
  g : Ex G G'
  e : Ex G' H'
  f : ∀ a, G a = none → H a ≠ none → G' a = none
  t : ∀ a ps, G' a = some (.tbl ps) → G a = some (.tbl ps)
/-- no table of code objects -/
def NoTb (o : HO) : Prop := ∀ ps, o ≠ .tbl ps
section
variable {G H G1 H1 G2 H2 : Hp}
theorem Le.refl (e : Ex G H) : Le G H G H := ⟨Ex.refl _, Ex.refl _, e, fun _ h _ => h, fun _ _ h => h⟩
theorem Le.trans (a : Le G H G1 H1) (b : Le G1 H1 G2 H2) : Le G H G2 H2 where
  h := a.h.trans b.h
  g := a.g.trans b.g
  e := b.e
  f := fun x hg hh => b.f x (a.f x hg hh) fun z => by
    cases q : H x with
    | none => exact hh q
    | some o => rw [a.h x o q] at z; cases z
  t := fun x ps h => a.t x ps (b.t x ps h)
/-- the heap alone grows -/
theorem Le.heap (e : Ex G H) (x : Ex H H1) : Le G H G H1 := ⟨x, Ex.refl _, e.trans x, fun _ h _ => h, fun _ _ h => h⟩
theorem none_of_ex (e : Ex G H) {p : Addr} (h : H p = none) : G p = none := by
  cases q : G p with
  | none => rfl
  | some o => rw [e p o q] at h; cases h
/-- a new object, known -/
theorem Le.new (e : Ex G H) {p : Addr} {o : HO} (h : H p = none) (ht : NoTb o := by intro _ z; cases z) : Le G H (upd G p o) (upd H p o) where
  h := Ex.new h
  g := Ex.new (none_of_ex e h)
  e := fun a u q => by
    by_cases z : a = p
    · subst z; rw [upd_same] at q ⊢; exact q
    · rw [upd_ne z] at q ⊢; exact e a u q
  f := fun a hg hh => by
    by_cases z : a = p
    · subst z; exact absurd h hh
    · rw [upd_ne z]; exact hg
  t := fun a ps q => by
    by_cases z : a = p
    · subst z; rw [upd_same] at q; exact absurd (Option.some.inj q) (ht ps)
    · rw [upd_ne z] at q; exact q
/-- what was filled since (G, H) is known from now on -/
theorem Le.fix (e : Ex G H) (l : Le G H G1 H1) {p : Addr} {o : HO} (h : H p = none) (h1 : H1 p = some o) (ht : NoTb o := by intro _ z; cases z) : Le G H (upd G1 p o) H1 where
  h := l.h
  g := fun a u q => by
    by_cases z : a = p
    · subst z; rw [none_of_ex e h] at q; cases q
    · rw [upd_ne z]; exact l.g a u q
  e := fun a u q => by
    by_cases z : a = p
    · subst z; rw [upd_same] at q; rw [h1]; exact q
    · rw [upd_ne z] at q; exact l.e a u q
  f := fun a hg hh => by
    by_cases z : a = p
    · subst z; exact absurd h hh
    · rw [upd_ne z]; exact l.f a hg hh
  t := fun a ps q => by
    by_cases z : a = p
    · subst z; rw [upd_same] at q; exact absurd (Option.some.inj q) (ht ps)
    · rw [upd_ne z] at q; exact l.t a ps q
/-- what (G, H) does not know changes -/
theorem Le.mut (l : Le G H G1 H1) {p : Addr} {o : HO} (h : H p = none) (hg : G1 p = none) : Le G H G1 (upd H1 p o) where
  h := fun a u q => by
    rw [upd_ne (ne_of_none q h)]; exact l.h a u q
  g := l.g
  e := fun a u q => by
    rw [upd_ne (ne_of_none q hg)]; exact l.e a u q
  f := l.f
  t := l.t
/-- a fresh one, not known -/
theorem Le.newM (e : Ex G H) {p : Addr} {o : HO} (h : H p = none) : Le G H G (upd H p o) := (Le.refl e).mut h (none_of_ex e h)
/-- fresh behind is fresh ahead -/
theorem Le.back (l : Le G H G1 H1) {p : Addr} (h : H1 p = none) : H p = none := fresh_back l.h h
theorem Le.gnone (l : Le G H G1 H1) {p : Addr} (hg : G p = none) (hh : H p ≠ none) : G1 p = none := l.f p hg hh
/-- both parts -/
def hun (A B : Hp) : Hp := fun a => match A a with
  | some o => some o
  | none => B a
theorem hun_l {A B : Hp} : Ex A (hun A B) := fun a o h => by unfold hun; rw [h]
theorem hun_r {A B C : Hp} (h1 : Ex A C) (h2 : Ex B C) : Ex B (hun A B) := fun a o h => by
  unfold hun
  cases q : A a with
  | none => exact h
  | some u =>
    have e1 := h1 a u q
    have e2 := h2 a o h
    rw [e1] at e2
    exact e2
theorem hun_t {A B C : Hp} (h1 : ∀ a ps, A a = some (.tbl ps) → C a = some (.tbl ps)) (h2 : ∀ a ps, B a = some (.tbl ps) → C a = some (.tbl ps)) (a : Addr) (ps : Array Value) (h : hun A B a = some (.tbl ps)) : C a = some (.tbl ps) := by
  unfold hun at h
  cases q : A a with
  | none => rw [q] at h; exact h2 a ps h
  | some u => rw [q] at h; exact h1 a ps (q.trans h)
theorem hun_ex {A B C : Hp} (h1 : Ex A C) (h2 : Ex B C) : Ex (hun A B) C := fun a o h => by
  unfold hun at h
  cases q : A a with
  | none => rw [q] at h; exact h2 a o h
  | some u => rw [q] at h; rw [← h]; exact h1 a u q
end

section
variable {ω : Type} (K : PySem.W.Frag) (O : OI ω)
/-- the data is handed back: known behind -/
def RetG (d : D ω) (G H : Hp) (Q : VK) : Prop := ∀ v G2 H2, Le G H G2 H2 → At K O G2 d v → Q v H2
def EvD (te : TE) (σ : L2.St) (G : Hp) (d : D ω) : Prop := ∀ H1, Ex G H1 → ∀ Q : VK, RetG K O d G H1 Q → te σ H1 Q
def EvDA (ta : TA) (σ : L2.St) (G : Hp) (ds : List (D ω)) : Prop := ∀ H1, Ex G H1 → ∀ Q : List V → Hp → Prop, (∀ vs G2 H2, Le G H1 G2 H2 → AtL K O G2 ds vs → Q vs H2) → ta σ H1 Q
end
section
variable {ω : Type} {K : PySem.W.Frag} {O : OI ω} {G G' H : Hp} {te ta tb : TE} {σ : L2.St} {d : D ω} {v : V}
theorem RetG.mono {Q : VK} {G1 H1 : Hp} (l : Le G H G1 H1) (k : RetG K O d G H Q) : RetG K O d G1 H1 Q := fun v G2 H2 l2 a => k v G2 H2 (l.trans l2) a
theorem EvD.mono (e : Ex G G') (h : EvD K O te σ G d) : EvD K O te σ G' d := fun H1 e1 Q k => h H1 (e.trans e1) Q fun v G2 H2 l a =>
  k v (hun G2 G') H2 ⟨l.h, hun_r l.e (e1.trans l.h), hun_ex l.e (e1.trans l.h), (fun x hg hh => by
    unfold hun
    have g0 : G x = none := none_of_ex e hg
    rw [l.f x g0 hh]
    exact hg), hun_t (fun a ps q => e a _ (l.t a ps q)) fun _ _ q => q⟩ (a.mono hun_l)
theorem ed_var {i : Nat} (h : σ[i]? = some (some v)) (a : At K O G d v) : EvD K O (tVar i) σ G d := fun H1 e Q k => ⟨v, h, k v G H1 (Le.refl e) a⟩
theorem ed_of (h : Ev te σ G v) (a : At K O G d v) : EvD K O te σ G d := fun H1 e Q k => h H1 e Q fun H2 e2 => k v G H2 (Le.heap e e2) a
theorem eda_nil : EvDA K O tNil σ G [] := fun H1 e Q k => k [] G H1 (Le.refl e) (atL_nil.mpr rfl)
theorem eda_cons {tr : TA} {ds : List (D ω)} (h : EvD K O te σ G d) (hr : EvDA K O tr σ G ds) : EvDA K O (tCons te tr) σ G (d :: ds) := fun H1 e Q k =>
  h H1 e _ fun v G2 H2 l a => hr H2 ((l.g).trans l.e) _ fun vs G3 H3 l3 as => by
    have e3 : Ex G2 (hun G3 G2) := hun_r l3.e (l.e.trans l3.h)
    refine k (v :: vs) (hun G3 G2) H3 ⟨l.h.trans l3.h, l.g.trans e3, hun_ex l3.e (l.e.trans l3.h), fun x hg hh => ?_, hun_t l3.t l.t⟩ (atL_cons.mpr ⟨v, vs, rfl, a.mono e3, as.mono hun_l⟩)
    have n2 := l.f x hg hh
    have h2 : H2 x ≠ none := fun z => hh (fresh_back l.h z)
    unfold hun
    rw [l3.f x hg h2]
    exact n2
/-- a display -/
theorem ed_lst {ta : TA} {ds : List (D ω)} (h : EvDA K O ta σ G ds) (hl : ds.length ≤ 100000) : EvD K O (tLst ta) σ G (.lst ds) := fun H1 e Q k =>
  h H1 e _ fun vs G2 H2 l as => ⟨sz_of (by rw [as.len]; exact hl), fun p hp => k (.ref p) (upd G2 p (.lst vs)) _ (l.trans (Le.new l.e hp)) (at_lst.mpr ⟨p, vs, rfl, upd_same, as.mono (Ex.new (none_of_ex l.e hp))⟩)⟩
theorem ed_tup {ta : TA} {ds : List (D ω)} (h : EvDA K O ta σ G ds) (hl : ds.length ≤ 100000) : EvD K O (tTup ta) σ G (.tup ds) := fun H1 e Q k =>
  h H1 e _ fun vs G2 H2 l as => ⟨sz_of (by rw [as.len]; exact hl), fun p hp => k (.ref p) (upd G2 p (.tup vs)) _ (l.trans (Le.new l.e hp)) (at_tup.mpr ⟨p, vs, rfl, st_of upd_same, as.mono (Ex.new (none_of_ex l.e hp))⟩)⟩
end
end SR
set_option maxRecDepth 100000
set_option maxHeartbeats 4000000
namespace SR
open PySem PySem.Spec PyProof.Rows L2 Evl
section
variable {ω : Type} {K : PySem.W.Frag} {O : OI ω} {G G' H : Hp} {te ta tb tl : TE} {σ : L2.St} {d : D ω} {v : V}

theorem ev_ofD (h : EvD K O te σ G d) (one : ∀ G v', At K O G d v' → v' = v) : Ev te σ G v := fun H1 e Q q => h H1 e Q fun v' G2 H2 l a => by rw [one G2 v' a]; exact q H2 l.h
theorem ev_bl {b : Bool} (h : EvD K O te σ G (.bl b)) : Ev te σ G (.bl b) := ev_ofD h fun G v a => at_bl.mp a
theorem ev_int {i : Int} (h : EvD K O te σ G (.int i)) : Ev te σ G (.int i) := ev_ofD h fun G v a => at_int.mp a
theorem ev_non (h : EvD K O te σ G .non) : Ev te σ G .non := ev_ofD h fun G v a => at_non.mp a
theorem et_ofD {b : Bool} (h : EvD K O te σ G (.bl b)) : EvT (tB te) σ G b := et_B (ev_bl h)

/-! ### a def over data -/
def SpD (K : PySem.W.Frag) (O : OI ω) (R : List (D ω) → D ω → Prop) : Sp := fun vs H Q _ => ∃ G ds d, Ex G H ∧ AtL K O G ds vs ∧ R ds d ∧ RetG K O d G H Q
theorem ed_call {R : List (D ω) → D ω → Prop} {E : XK} {t : TA} {ds : List (D ω)} (h : EvDA K O t σ G ds) (r : R ds d) : EvD K O (tCall (SpD K O R) [] E t) σ G d := fun H1 e Q k =>
  h H1 e _ fun vs G2 H2 l as => ⟨G2, ds, d, l.e, by rw [List.append_nil]; exact as, r, k.mono l⟩

/-! ### sources -/
def Src (K : PySem.W.Frag) (O : OI ω) (wi : TI) (σ : L2.St) (G : Hp) (ds : List (D ω)) : Prop := ∀ H1, Ex G H1 → ∀ R : It → Hp → Prop,
  (∀ (J : It) (Gd : Hp → Prop) (Y : Nat → Hp → V → Hp → Prop) (G2 H2 : Hp), Le G H1 G2 H2 → Walk J ds.length Gd Y → (∀ H, Ex G2 H → Gd H) →
    (∀ i Gi Hi x Hi', Ex G2 Gi → Ex Gi Hi → i < ds.length → Y i Hi x Hi' → ∃ d Gi', ds[i]? = some d ∧ Le Gi Hi Gi' Hi' ∧ At K O Gi' d x) → R J H2) → wi σ H1 R
theorem src_list {ds : List (D ω)} (h : EvD K O tl σ G (.lst ds)) : Src K O (iList K tl) σ G ds := fun H1 e R k =>
  h H1 e _ fun v G2 H2 l a => by
    obtain ⟨p, vs, rfl, hs, as⟩ := at_lst.mp a
    refine ⟨p, rfl, ⟨vs, sq_of (l.e _ _ hs)⟩, ?_⟩
    have hl : vs.length = ds.length := as.len
    refine k (Itl K p) _ _ G2 H2 l (by rw [← hl]; exact walk_list (xs := vs)) (fun H x => sq_of (x _ _ hs)) fun i Gi Hi x Hi' eg eh hi y => ?_
    obtain ⟨rfl, hx⟩ := y
    obtain ⟨d, hd, ad⟩ := as.get hx
    exact ⟨d, Gi, hd, Le.refl eh, ad.mono eg⟩
theorem src_tup {ds : List (D ω)} (h : EvD K O tl σ G (.tup ds)) : Src K O (iTup K tl) σ G ds := fun H1 e R k =>
  h H1 e _ fun v G2 H2 l a => by
    obtain ⟨p, vs, rfl, hs, as⟩ := at_tup.mp a
    refine ⟨p, rfl, ⟨vs, ex_t l.e hs⟩, ?_⟩
    have hl : vs.length = ds.length := as.len
    refine k (Itt K p) _ _ G2 H2 l (by rw [← hl]; exact walk_tup (xs := vs)) (fun H x => ex_t x hs) fun i Gi Hi x Hi' eg eh hi y => ?_
    obtain ⟨rfl, hx⟩ := y
    obtain ⟨d, hd, ad⟩ := as.get hx
    exact ⟨d, Gi, hd, Le.refl eh, ad.mono eg⟩
theorem src_or1 {w1 w2 : TI} {ds : List (D ω)} (h : Src K O w1 σ G ds) : Src K O (fun σ H R => w1 σ H R ∨ w2 σ H R) σ G ds := fun H1 e R k => Or.inl (h H1 e R k)
theorem src_or2 {w1 w2 : TI} {ds : List (D ω)} (h : Src K O w2 σ G ds) : Src K O (fun σ H R => w1 σ H R ∨ w2 σ H R) σ G ds := fun H1 e R k => Or.inr (h H1 e R k)
def idxD (ds : List (D ω)) : List (D ω) := ds.zipIdx.map fun p => .tup [.int (p.2 : Nat), p.1]
theorem idxD_len {ds : List (D ω)} : (idxD ds).length = ds.length := by simp [idxD]
theorem idxD_get {ds : List (D ω)} {i : Nat} {d : D ω} (h : ds[i]? = some d) : (idxD ds)[i]? = some (.tup [.int (i : Nat), d]) := by
  simp [idxD, List.getElem?_zipIdx, h]
theorem src_enum {ta : TA} {ds : List (D ω)} (h : EvDA K O ta σ G [.lst ds]) : Src K O (iEnum K ta) σ G (idxD ds) := fun H1 e R k =>
  h H1 e _ fun vs G2 H2 l as => by
    obtain ⟨v, r, rfl, a, n⟩ := atL_cons.mp as
    obtain rfl := atL_nil.mp n
    obtain ⟨p, ws, rfl, hs, aw⟩ := at_lst.mp a
    refine ⟨p, ws, rfl, sq_of (l.e _ _ hs), ?_⟩
    have hl : ws.length = ds.length := aw.len
    refine k (Ite K p) _ _ G2 H2 l (by rw [idxD_len, ← hl]; exact walk_enum (xs := ws)) (fun H x => sq_of (x _ _ hs)) fun i Gi Hi x Hi' eg eh hi y => ?_
    obtain ⟨T, x1, x2, rfl, hT, rfl, h1, h2⟩ := y
    obtain ⟨d, hd, ad⟩ := aw.get h2
    have e1 : x1 = .int (i : Nat) := (Option.some.inj h1).symm
    subst e1
    refine ⟨_, upd Gi T (.tup [.int (i : Nat), x2]), idxD_get hd, Le.new eh hT, at_tup.mpr ⟨T, _, rfl, st_of upd_same, atL_cons.mpr ⟨_, _, rfl, at_int.mpr rfl, ?_⟩⟩⟩
    exact AtL.one ((ad.mono eg).mono (Ex.new (none_of_ex eh hT)))
theorem walk_enumT {a : Addr} {xs : List V} : Walk (IteT K a xs) xs.length (fun H => SqT K H a xs) (YPair (fun i => some (.int (i : Nat))) (fun i => xs[i]?)) := by
  refine ⟨fun i _ hi q => ⟨q, hi⟩, fun _ q => ⟨q, Nat.le_refl _⟩, fun i H v H' _ q y => ?_⟩
  obtain ⟨T, x, h1, h2, h3, h4⟩ := y
  exact ⟨T, .int (i : Nat), x, h1, h2, h3, rfl, h4⟩
theorem src_enumT {ta : TA} {ds : List (D ω)} (h : EvDA K O ta σ G [.tup ds]) : Src K O (iEnumT K ta) σ G (idxD ds) := fun H1 e R k =>
  h H1 e _ fun vs G2 H2 l as => by
    obtain ⟨v, r, rfl, a, n⟩ := atL_cons.mp as
    obtain rfl := atL_nil.mp n
    obtain ⟨p, ws, rfl, hs, aw⟩ := at_tup.mp a
    refine ⟨p, ws, rfl, ex_t l.e hs, ?_⟩
    have hl : ws.length = ds.length := aw.len
    refine k (IteT K p ws) _ _ G2 H2 l (by rw [idxD_len, ← hl]; exact walk_enumT (xs := ws)) (fun H x => ex_t x hs) fun i Gi Hi x Hi' eg eh hi y => ?_
    obtain ⟨T, x1, x2, rfl, hT, rfl, h1, h2⟩ := y
    obtain ⟨d, hd, ad⟩ := aw.get h2
    have e1 : x1 = .int (i : Nat) := (Option.some.inj h1).symm
    subst e1
    refine ⟨_, upd Gi T (.tup [.int (i : Nat), x2]), idxD_get hd, Le.new eh hT, at_tup.mpr ⟨T, _, rfl, st_of upd_same, atL_cons.mpr ⟨_, _, rfl, at_int.mpr rfl, ?_⟩⟩⟩
    exact AtL.one ((ad.mono eg).mono (Ex.new (none_of_ex eh hT)))
def zipD (ds es : List (D ω)) : List (D ω) := (ds.zip es).map fun p => .tup [p.1, p.2]
/-- zip of two lists -/
theorem src_zipL {ta : TA} {ds es : List (D ω)} (h : EvDA K O ta σ G [.lst ds, .lst es]) : Src K O (RZ.iZipA K ta) σ G (zipD ds es) := fun H1 e R k =>
  h H1 e _ fun vs G2 H2 l as => by
    obtain ⟨v, r, rfl, a, n⟩ := atL_cons.mp as
    obtain ⟨v', r', rfl, a', n'⟩ := atL_cons.mp n
    obtain rfl := atL_nil.mp n'
    obtain ⟨p, ws, rfl, hs, aw⟩ := at_lst.mp a
    obtain ⟨q, us, rfl, hs', aw'⟩ := at_lst.mp a'
    refine ⟨p, q, ws, us, rfl, Or.inl ⟨sq_of (l.e _ _ hs), sq_of (l.e _ _ hs'), ?_⟩⟩
    have hl : ws.length = ds.length := aw.len
    have hl' : us.length = es.length := aw'.len
    have hn : (zipD ds es).length = min ws.length us.length := by simp [zipD, hl, hl']
    refine k (Itz K p q) _ _ G2 H2 l (walk_zip hn) (fun H x => ⟨sq_of (x _ _ hs), sq_of (x _ _ hs')⟩) fun i Gi Hi x Hi' eg eh hi y => ?_
    obtain ⟨T, x1, x2, rfl, hT, rfl, h1, h2⟩ := y
    obtain ⟨d, hd, ad⟩ := aw.get h1
    obtain ⟨d', hd', ad'⟩ := aw'.get h2
    have e3 : (zipD ds es)[i]? = some (.tup [d, d']) := by
      simp [zipD, List.zip, List.getElem?_zipWith, hd, hd']
    refine ⟨_, upd Gi T (.tup [x1, x2]), e3, Le.new eh hT, at_tup.mpr ⟨T, _, rfl, st_of upd_same, atL_cons.mpr ⟨_, _, rfl, (ad.mono eg).mono (Ex.new (none_of_ex eh hT)), ?_⟩⟩⟩
    exact AtL.one ((ad'.mono eg).mono (Ex.new (none_of_ex eh hT)))
def rngD (lo : Int) (n : Nat) : List (D ω) := (List.range n).map fun i => .int (lo + (i : Nat))
theorem rngD_get {lo : Int} {n i : Nat} (h : i < n) : (rngD (ω := ω) lo n)[i]? = some (.int (lo + (i : Nat))) := by simp [rngD, h]
theorem src_r1 {ta : TA} {n : Int} (h : EvA ta σ G [.int n]) (hn : -(2 ^ 62) ≤ n ∧ n < 2 ^ 62) : Src K O (iRng1 ta) σ G (rngD (ω := ω) 0 n.toNat) := fun H1 e R k =>
  h H1 e _ fun H2 e2 => ⟨n, rfl, hn.1, hn.2, k (Itr 0 n.toNat) _ _ G H2 (Le.heap e e2) (by rw [show (rngD (ω := ω) 0 n.toNat).length = n.toNat by simp [rngD]]; exact walk_range) (fun _ _ => True.intro) fun i Gi Hi x Hi' eg eh hi y => by
    obtain ⟨rfl, rfl⟩ := y
    exact ⟨_, Gi, rngD_get (by simpa [rngD] using hi), Le.refl eh, at_int.mpr rfl⟩⟩
theorem src_r2 {ta : TA} {lo n : Int} (h : EvA ta σ G [.int lo, .int n]) (hn : -(2 ^ 62) ≤ lo ∧ lo < 2 ^ 62 ∧ -(2 ^ 62) ≤ n ∧ n < 2 ^ 62) : Src K O (iRng2 ta) σ G (rngD (ω := ω) lo (n - lo).toNat) := fun H1 e R k =>
  h H1 e _ fun H2 e2 => ⟨lo, n, rfl, hn, k (Itr lo (n - lo).toNat) _ _ G H2 (Le.heap e e2) (by rw [show (rngD (ω := ω) lo (n - lo).toNat).length = (n - lo).toNat by simp [rngD]]; exact walk_range) (fun _ _ => True.intro) fun i Gi Hi x Hi' eg eh hi y => by
    obtain ⟨rfl, rfl⟩ := y
    exact ⟨_, Gi, rngD_get (by simpa [rngD] using hi), Le.refl eh, at_int.mpr rfl⟩⟩

/-! ### targets -/
theorem tg_pair {j k : Nat} {d1 d2 : D ω} {x : V} {Q : L2.St → Hp → Prop} (a : At K O G (.tup [d1, d2]) x) (e : Ex G H) (q : ∀ x1 x2, At K O G d1 x1 → At K O G d2 x2 → Q ((σ.set j (some x1)).set k (some x2)) H) :
    gTup K 2 (gCons (gName j) (gCons (gName k) gNil)) x σ H Q := by
  obtain ⟨p, vs, rfl, hs, as⟩ := at_tup.mp a
  obtain ⟨x1, r, rfl, a1, n⟩ := atL_cons.mp as
  obtain ⟨x2, r2, rfl, a2, n2⟩ := atL_cons.mp n
  obtain rfl := atL_nil.mp n2
  exact ⟨p, _, rfl, ex_t e hs, rfl, x1, _, rfl, x2, _, rfl, rfl, q x1 x2 a1 a2⟩
theorem tg_pairL {j k : Nat} {d1 d2 : D ω} {x : V} {Q : L2.St → Hp → Prop} (a : At K O G (.lst [d1, d2]) x) (e : Ex G H) (q : ∀ x1 x2, At K O G d1 x1 → At K O G d2 x2 → Q ((σ.set j (some x1)).set k (some x2)) H) :
    gUnl K 2 (gCons (gName j) (gCons (gName k) gNil)) x σ H Q := by
  obtain ⟨p, vs, rfl, hs, as⟩ := at_lst.mp a
  obtain ⟨x1, r, rfl, a1, n⟩ := atL_cons.mp as
  obtain ⟨x2, r2, rfl, a2, n2⟩ := atL_cons.mp n
  obtain rfl := atL_nil.mp n2
  exact ⟨p, _, rfl, sq_of (e _ _ hs), rfl, x1, _, rfl, x2, _, rfl, rfl, q x1 x2 a1 a2⟩

/-! ### a comprehension -/
theorem take_snoc {α : Type} {l : List α} {i : Nat} {x : α} (h : l[i]? = some x) : l.take (i + 1) = l.take i ++ [x] := by
  rw [List.take_add_one, h]
  rfl
theorem ed_lc {wi : TI} {g : TG} {tt : TT} {vs : List Nat} {ds : List (D ω)} (f : D ω → Bool) (m : D ω → D ω) (hs : Src K O wi σ G ds) (hz : ds.length ≤ 40000)
    (body : ∀ (i : Nat) (d : D ω) (x : V) (Gi Hi : Hp), ds[i]? = some d → Ex G Gi → Ex Gi Hi → At K O Gi d x → ∀ Q : L2.St → Hp → Prop,
      (∀ σ2 H2, Ex Hi H2 → wipe σ2 vs = wipe σ vs → EvT tt σ2 Gi (f d) → (f d = true → EvD K O te σ2 Gi (m d)) → Q σ2 H2) → g x (wipe σ vs) Hi Q) :
    EvD K O (tLc wi g tt te vs) σ G (.lst ((ds.filter f).map m)) := fun H1 e Q k => by
  refine hs H1 e _ fun J Gd Y G0 H0 l0 w hG yl => ?_
  intro Dl hD
  refine lc_it w (fun i H => ∃ Gi us, Le G0 H0 Gi H ∧ H Dl = some (.lst us) ∧ Gi Dl = none ∧ AtL K O Gi (((ds.take i).filter f).map m) us)
    ⟨G0, [], Le.newM l0.e hD, upd_same, none_of_ex l0.e hD, by simp; exact atL_nil.mpr rfl⟩ (fun i H _ p => ?_) (fun i x Hi Hi' hi p y => ?_) fun H p => ?_
  · obtain ⟨Gi, us, l, _⟩ := p
    exact hG H (l.g.trans l.e)
  · obtain ⟨Gi, us, l, hu, gn, as⟩ := p
    obtain ⟨d, Gi', hd, l', ad⟩ := yl i Gi Hi x Hi' l.g l.e hi y
    have tk := take_snoc hd
    have gn' : Gi' Dl = none := l'.gnone gn (by rw [hu]; exact fun z => nomatch z)
    have hu' : Hi' Dl = some (.lst us) := l'.h Dl _ hu
    have lt : Le G0 H0 Gi' Hi' := l.trans l'
    refine body i d x Gi' Hi' hd (l0.g.trans lt.g) l'.e ad _ fun σ2 H2 e2 hw ht he => ⟨hw, ?_⟩
    refine ht H2 (l'.e.trans e2) _ fun H3 e3 => ?_
    have e23 := e2.trans e3
    have lt3 : Le G0 H0 Gi' H3 := lt.trans (Le.heap l'.e e23)
    cases hf : f d with
    | false =>
      rw [if_neg Bool.false_ne_true]
      refine ⟨Gi', us, lt3, e23 Dl _ hu', gn', ?_⟩
      rw [tk, List.filter_append, List.filter_cons, if_neg (by rw [hf]; decide), List.filter_nil, List.append_nil]
      exact as.mono l'.g
    | true =>
      rw [if_pos rfl]
      refine he hf H3 (l'.e.trans e23) _ fun u G4 H4 l4 a4 => ?_
      have hu4 : H4 Dl = some (.lst us) := l4.h Dl _ (e23 Dl _ hu')
      have gn4 : G4 Dl = none := l4.gnone gn' (by rw [e23 Dl _ hu']; exact fun z => nomatch z)
      have ul : us.length ≤ i := by
        have := as.len
        have h2 := List.length_filter_le f (ds.take i)
        simp at this h2
        omega
      refine ⟨us, hu4, sz_lt (by omega), G4, us ++ [u], (lt3.trans l4).mut hD gn4, upd_same, gn4, ?_⟩
      rw [tk, List.filter_append, List.filter_cons, if_pos hf, List.filter_nil, List.map_append]
      exact (as.mono (l'.g.trans l4.g)).app (AtL.one a4)
  · obtain ⟨Gi, us, l, hu, gn, as⟩ := p
    rw [List.take_length] at as
    exact k (.ref Dl) (upd Gi Dl (.lst us)) H (l0.trans (Le.fix l0.e l hD hu)) (at_lst.mpr ⟨Dl, us, rfl, upd_same, as.mono (Ex.new gn)⟩)
end

/-! ### statements -/
section
variable {ω : Type} {K : PySem.W.Frag} {O : OI ω} {G G' H : Hp} {te ta tb tl : TE} {σ : L2.St} {d : D ω} {v : V} {De : Ends} {tu tw tz : TS} {g : TG} {t : TT}
theorem s_forS {wi : TI} {ds : List (D ω)} (hs : Src K O wi σ G ds) (e : Ex G H) (Pv : Nat → L2.St → Hp → Hp → Prop) (h0 : ∀ G0 H0, Le G H G0 H0 → Pv 0 σ G0 H0)
    (turn : ∀ G0 i d x σ' Gi Hi Gi' Hi', Ex G G0 → ds[i]? = some d → Ex G0 Gi → Ex Gi Hi → Pv i σ' Gi Hi → Le Gi Hi Gi' Hi' → At K O Gi' d x → ∀ N : L2.St → Hp → Prop,
      (∀ σ2 G2 H2, Ex Gi' G2 → Ex G2 H2 → Pv (i + 1) σ2 G2 H2 → N σ2 H2) → g x σ' Hi' fun σ2 H2 => tu { De with nx := N, ct := N, bk := De.nx } σ2 H2)
    (hd : ∀ σ' G' H', Ex G G' → Ex G' H' → Pv ds.length σ' G' H' → De.nx σ' H') : tFor wi g tu De σ H := by
  refine hs H e _ fun J Gd Y G0 H0 l0 w hG yl => ?_
  refine for_it w (fun i σ' H' => ∃ G', Ex G0 G' ∧ Ex G' H' ∧ Pv i σ' G' H') ⟨G0, Ex.refl _, l0.e, h0 G0 H0 l0⟩ (fun i σ' H' _ p => ?_) (fun i x σ' Hi Hi' hi p y => ?_) fun σ' H' p => ?_
  · obtain ⟨G', e1, e2, _⟩ := p
    exact hG H' (e1.trans e2)
  · obtain ⟨Gi, e1, e2, pv⟩ := p
    obtain ⟨d, Gi', hd', l', ad⟩ := yl i Gi Hi x Hi' e1 e2 hi y
    exact turn G0 i d x σ' Gi Hi Gi' Hi' l0.g hd' e1 e2 pv l' ad _ fun σ2 G2 H2 e3 e4 p4 => ⟨G2, (e1.trans l'.g).trans e3, e4, p4⟩
  · obtain ⟨G', e1, e2, pv⟩ := p
    exact hd σ' G' H' (l0.g.trans e1) e2 pv
theorem q_forS {wi : TI} {ds : List (D ω)} (hs : Src K O wi σ G ds) (e : Ex G H) (Pv : Nat → L2.St → Hp → Hp → Prop) (h0 : ∀ G0 H0, Le G H G0 H0 → Pv 0 σ G0 H0)
    (turn : ∀ G0 i d x σ' Gi Hi Gi' Hi', Ex G G0 → ds[i]? = some d → Ex G0 Gi → Ex Gi Hi → Pv i σ' Gi Hi → Le Gi Hi Gi' Hi' → At K O Gi' d x → ∀ N : L2.St → Hp → Prop,
      (∀ σ2 G2 H2, Ex Gi' G2 → Ex G2 H2 → Pv (i + 1) σ2 G2 H2 → N σ2 H2) → g x σ' Hi' fun σ2 H2 => tu { De with nx := N, ct := N, bk := tz De } σ2 H2)
    (hd : ∀ σ' G' H', Ex G G' → Ex G' H' → Pv ds.length σ' G' H' → tz De σ' H') : tSeq (tFor wi g tu) tz De σ H := s_forS (De := { De with nx := tz De }) hs e Pv h0 turn hd
theorem s_asgD {i : Nat} (h : EvD K O te σ G d) (e : Ex G H) (k : ∀ v G2 H2, Le G H G2 H2 → At K O G2 d v → De.nx (σ.set i (some v)) H2) : tAsg te (gName i) De σ H := h H e _ k
theorem q_asgD {i : Nat} (h : EvD K O te σ G d) (e : Ex G H) (k : ∀ v G2 H2, Le G H G2 H2 → At K O G2 d v → tz De (σ.set i (some v)) H2) : tSeq (tAsg te (gName i)) tz De σ H := h H e _ k
/-- a value: nothing known is added -/
theorem q_asgV {i : Nat} (h : Ev te σ G v) (e : Ex G H) (k : ∀ H2, Le G H G H2 → tz De (σ.set i (some v)) H2) : tSeq (tAsg te (gName i)) tz De σ H := h H e _ fun H2 e2 => k H2 (Le.heap e e2)
theorem s_asgV {i : Nat} (h : Ev te σ G v) (e : Ex G H) (k : ∀ H2, Le G H G H2 → De.nx (σ.set i (some v)) H2) : tAsg te (gName i) De σ H := h H e _ fun H2 e2 => k H2 (Le.heap e e2)
theorem s_retD (h : EvD K O te σ G d) (e : Ex G H) (k : RetG K O d G H De.rt) : tRet te De σ H := h H e _ k
theorem s_ifG {b : Bool} (h : EvT t σ G b) (e : Ex G H) (h1 : b = true → ∀ H2, Le G H G H2 → tu De σ H2) (h2 : b = false → ∀ H2, Le G H G H2 → tw De σ H2) : tIfS t tu tw De σ H := h H e _ fun H2 e2 => by
  cases b with
  | true =>
    rw [if_pos rfl]
    exact h1 rfl H2 (Le.heap e e2)
  | false =>
    rw [if_neg Bool.false_ne_true]
    exact h2 rfl H2 (Le.heap e e2)
theorem q_ifG {b : Bool} (h : EvT t σ G b) (e : Ex G H) (h1 : b = true → ∀ H2, Le G H G H2 → tu { De with nx := tz De } σ H2) (h2 : b = false → ∀ H2, Le G H G H2 → tw { De with nx := tz De } σ H2) : tSeq (tIfS t tu tw) tz De σ H := s_ifG (De := { De with nx := tz De }) h e h1 h2
theorem q_whenG {b : Bool} (h : EvT t σ G b) (e : Ex G H) (h1 : b = true → ∀ H2, Le G H G H2 → tu { De with nx := tz De } σ H2) (h2 : b = false → ∀ H2, Le G H G H2 → tz De σ H2) : tSeq (tIfS t tu tNext) tz De σ H := q_ifG h e h1 h2
/-- an if that is not taken -/
theorem q_skip (h : EvT t σ G false) (e : Ex G H) (k : ∀ H2, Le G H G H2 → tz De σ H2) : tSeq (tIfS t tu tNext) tz De σ H := q_ifG h e (fun z => nomatch z) fun _ H2 l => k H2 l
/-- a truth told by pt_truth, pt_truthR -/
theorem et_tru {b : Bool} (h : Ev te σ G (.bl b)) : EvT (fun σ H Q => te σ H fun x H' => ∃ k, TruV K x H' k ∧ Q k H') σ G b := fun H1 e Q q => h H1 e _ fun H2 e2 => ⟨b, rfl, q H2 e2⟩
end
end SR
set_option maxRecDepth 100000
set_option maxHeartbeats 4000000
namespace SR
open PySem PySem.Spec PyProof.Rows L2 Evl
/-! ### isinstance, told for data -/
section
variable {ω : Type} {K : PySem.W.Frag} {O : OI ω} {T : ω → Value}
/-- what the classes of objects answer -/
structure OT (K : PySem.W.Frag) (O : OI ω) (T : ω → Value) : Prop where
  ty : ∀ H a w, O.at_ H a w → TyX K H (.ref a) (T w)
  int : ∀ w, PySem.W.kitOne K (T w) (.type "int") = some false
  bool : ∀ w, PySem.W.kitOne K (T w) (.type "bool") = some false
  list : ∀ w, PySem.W.kitOne K (T w) (.type "list") = some false
  tuple : ∀ w, PySem.W.kitOne K (T w) (.type "tuple") = some false
def dInt : D ω → Bool | .int _ => true | _ => false
def dBool : D ω → Bool | .bl _ => true | _ => false
def dIntB : D ω → Bool | .int _ => true | .bl _ => true | _ => false
def dLst : D ω → Bool | .lst _ => true | _ => false
def dTup : D ω → Bool | .tup _ => true | _ => false
def dSeq : D ω → Bool | .lst _ => true | .tup _ => true | _ => false
theorem kit_int (h : OT K O T) (d : D ω) : PySem.W.kitOne K (tyD T d) (.type "int") = some (dIntB d) := by
  cases d with
  | obj w => exact h.int w
  | _ => first | exact kit_ty (r := false) (by decide +kernel) | exact kit_ty (r := true) (by decide +kernel)
theorem kit_bool (h : OT K O T) (d : D ω) : PySem.W.kitOne K (tyD T d) (.type "bool") = some (dBool d) := by
  cases d with
  | obj w => exact h.bool w
  | _ => first | exact kit_ty (r := false) (by decide +kernel) | exact kit_ty (r := true) (by decide +kernel)
theorem kit_list (h : OT K O T) (d : D ω) : PySem.W.kitOne K (tyD T d) (.type "list") = some (dLst d) := by
  cases d with
  | obj w => exact h.list w
  | _ => first | exact kit_ty (r := false) (by decide +kernel) | exact kit_ty (r := true) (by decide +kernel)
theorem kit_tuple (h : OT K O T) (d : D ω) : PySem.W.kitOne K (tyD T d) (.type "tuple") = some (dTup d) := by
  cases d with
  | obj w => exact h.tuple w
  | _ => first | exact kit_ty (r := false) (by decide +kernel) | exact kit_ty (r := true) (by decide +kernel)
theorem kit_seq (h : OT K O T) (d : D ω) : PySem.W.kitAny K (tyD T d) [.type "list", .type "tuple"] = some (dSeq d) := by
  refine kitAny_cons (kit_list h d) (fun hb => kitAny_cons (kit_tuple h d) (fun hb2 => ?_) fun hb2 => ?_) (fun hb => ?_)
  · rw [kitAny_nil]
    cases d <;> simp_all [dLst, dTup, dSeq]
  · cases d <;> simp_all [dLst, dTup, dSeq]
  · cases d <;> simp_all [dLst, dTup, dSeq]
end


/-! ### tests on data, as values and as truths -/
section
variable {ω : Type} {K : PySem.W.Frag} {O : OI ω} {T : ω → Value} {G : Hp} {te : TE} {σ : L2.St} {d : D ω}
theorem isi_int (OK : OT K O T) (h : EvD K O te σ G d) : Ev (tCB (rIsi K) (tCons te (tCons (tC (.ty "int")) tNil))) σ G (.bl (dIntB d)) := fun H1 e Q q =>
  h H1 e _ fun v G2 H2 l a => ⟨v, .ty "int", _, _, _, rfl, .ty _, (ty_of OK.ty (a.mono l.e)), kit_int OK d, q H2 l.h⟩
theorem isi_bool (OK : OT K O T) (h : EvD K O te σ G d) : Ev (tCB (rIsi K) (tCons te (tCons (tC (.ty "bool")) tNil))) σ G (.bl (dBool d)) := fun H1 e Q q =>
  h H1 e _ fun v G2 H2 l a => ⟨v, .ty "bool", _, _, _, rfl, .ty _, (ty_of OK.ty (a.mono l.e)), kit_bool OK d, q H2 l.h⟩
theorem isi_list (OK : OT K O T) (h : EvD K O te σ G d) : Ev (tCB (rIsi K) (tCons te (tCons (tC (.ty "list")) tNil))) σ G (.bl (dLst d)) := fun H1 e Q q =>
  h H1 e _ fun v G2 H2 l a => ⟨v, .ty "list", _, _, _, rfl, .ty _, (ty_of OK.ty (a.mono l.e)), kit_list OK d, q H2 l.h⟩
theorem isi_tuple (OK : OT K O T) (h : EvD K O te σ G d) : Ev (tCB (rIsi K) (tCons te (tCons (tC (.ty "tuple")) tNil))) σ G (.bl (dTup d)) := fun H1 e Q q =>
  h H1 e _ fun v G2 H2 l a => ⟨v, .ty "tuple", _, _, _, rfl, .ty _, (ty_of OK.ty (a.mono l.e)), kit_tuple OK d, q H2 l.h⟩
theorem isi_seq (OK : OT K O T) (h : EvD K O te σ G d) : Ev (tCB (rIsiT K) (tCons te (tCons (tTup (tCons (tC (.ty "list")) (tCons (tC (.ty "tuple")) tNil))) tNil))) σ G (.bl (dSeq d)) := fun H1 e Q q =>
  h H1 e _ fun v G2 H2 l a => ⟨by show 2 ≤ sizeLine; decide, fun p hp => ⟨v, p, _, _, [.type "list", .type "tuple"], _, rfl, upd_same, .cons (.ty _) (.cons (.ty _) .nil), ty_of OK.ty ((a.mono l.e).mono (Ex.new hp)), kit_seq OK d, q _ (l.h.trans (Ex.new hp))⟩⟩
/-- one item of a list or tuple -/
def dItem : D ω → Nat → Option (D ω) | .lst l, i => l[i]? | .tup l, i => l[i]? | _, _ => none
def dLen : D ω → Nat | .lst l => l.length | .tup l => l.length | _ => 0
theorem ed_item {ti : TE} {i : Nat} {c : D ω} (h : EvD K O te σ G d) (hi : Ev ti σ G (.int (i : Nat))) (hc : dItem d i = some c) : EvD K O (tOp (fun x y H Q => rIxL K x y H Q ∨ rIxT K x y H Q) te ti) σ G c := fun H1 e Q k =>
  h H1 e _ fun v G2 H2 l a => hi H2 (e.trans l.h) _ fun H3 e3 => by
    cases d with
    | lst ds =>
      obtain ⟨p, vs, rfl, hs, as⟩ := at_lst.mp a
      obtain ⟨x, hx, ax⟩ := as.get' (i := i) hc
      exact Or.inl ⟨p, vs, _, x, rfl, rfl, sq_of ((l.e.trans e3) _ _ hs), atI_nat hx, k x G2 H3 (l.trans (Le.heap l.e e3)) ax⟩
    | tup ds =>
      obtain ⟨p, vs, rfl, hs, as⟩ := at_tup.mp a
      obtain ⟨x, hx, ax⟩ := as.get' (i := i) hc
      exact Or.inr ⟨p, vs, _, x, rfl, rfl, ex_t (l.e.trans e3) hs, atI_nat hx, k x G2 H3 (l.trans (Le.heap l.e e3)) ax⟩
    | _ => cases hc
theorem ed_itemL {ti : TE} {i : Nat} {c : D ω} {ds : List (D ω)} (h : EvD K O te σ G (.lst ds)) (hi : Ev ti σ G (.int (i : Nat))) (hc : ds[i]? = some c) : EvD K O (tOp (rIxL K) te ti) σ G c := fun H1 e Q k =>
  h H1 e _ fun v G2 H2 l a => hi H2 (e.trans l.h) _ fun H3 e3 => by
    obtain ⟨p, vs, rfl, hs, as⟩ := at_lst.mp a
    obtain ⟨x, hx, ax⟩ := as.get' (i := i) hc
    exact ⟨p, vs, _, x, rfl, rfl, sq_of ((l.e.trans e3) _ _ hs), atI_nat hx, k x G2 H3 (l.trans (Le.heap l.e e3)) ax⟩
theorem ed_itemT {ti : TE} {i : Nat} {c : D ω} {ds : List (D ω)} (h : EvD K O te σ G (.tup ds)) (hi : Ev ti σ G (.int (i : Nat))) (hc : ds[i]? = some c) : EvD K O (tOp (rIxT K) te ti) σ G c := fun H1 e Q k =>
  h H1 e _ fun v G2 H2 l a => hi H2 (e.trans l.h) _ fun H3 e3 => by
    obtain ⟨p, vs, rfl, hs, as⟩ := at_tup.mp a
    obtain ⟨x, hx, ax⟩ := as.get' (i := i) hc
    exact ⟨p, vs, _, x, rfl, rfl, ex_t (l.e.trans e3) hs, atI_nat hx, k x G2 H3 (l.trans (Le.heap l.e e3)) ax⟩
theorem len_d (h : EvD K O te σ G d) (hs : dSeq d = true) : Ev (tCB (fun xs H Q => ∃ p ys, xs = [V.ref p] ∧ (SqL K H p ys ∨ SqT K H p ys) ∧ Q (.int ys.length) H) (tCons te tNil)) σ G (.int (dLen d : Nat)) := fun H1 e Q q =>
  h H1 e _ fun v G2 H2 l a => by
    cases d with
    | lst ds =>
      obtain ⟨p, vs, rfl, hs, as⟩ := at_lst.mp a
      refine ⟨p, vs, rfl, Or.inl (sq_of (l.e _ _ hs)), ?_⟩
      rw [as.len]
      exact q H2 l.h
    | tup ds =>
      obtain ⟨p, vs, rfl, hs, as⟩ := at_tup.mp a
      refine ⟨p, vs, rfl, Or.inr (ex_t l.e hs), ?_⟩
      rw [as.len]
      exact q H2 l.h
    | _ => cases hs
end
theorem inV_int {i : Int} : ∀ {ns : List Int}, inV (.int i) (ns.map V.int) = ns.contains i
  | [] => rfl
  | n :: r => by
    have ih := inV_int (i := i) (ns := r)
    show (eqV (.int n) (.int i) || inV (.int i) (r.map V.int)) = (n :: r).contains i
    rw [ih, List.contains_cons]
    congr 1
    show (n == i) = (i == n)
    exact BEq.comm
end SR
set_option maxRecDepth 100000
set_option maxHeartbeats 4000000
namespace SR
open PySem PySem.Spec PyProof.Rows L2 Evl
/-! ### pairs of ints as a dict -/
def getI (m : List (Int × Int)) (o : Int) : Option Int := (m.find? fun q => decide (q.1 = o)).map (·.2)
def putI (m : List (Int × Int)) (o c : Int) : List (Int × Int) := if (m.any fun q => decide (q.1 = o)) = true then m.map (fun q => if q.1 = o then (q.1, c) else q) else m ++ [(o, c)]
theorem valV_kvI {o : Int} : ∀ {m : List (Int × Int)}, valV (kvI m) (Sum.inl o) = (getI m o).map V.int
  | [] => rfl
  | q :: r => by
    have ih := valV_kvI (o := o) (m := r)
    by_cases h : q.1 = o
    · have e : valV (kvI (q :: r)) (Sum.inl o : Key) = some (V.int q.2) := valV_pos (p := ((Sum.inl q.1 : Key), V.int q.2)) (by show (Sum.inl q.1 : Key) = Sum.inl o; rw [h])
      rw [e]
      simp [getI, h]
    · have e : valV (kvI (q :: r)) (Sum.inl o : Key) = valV (kvI r) (Sum.inl o) := valV_neg (p := ((Sum.inl q.1 : Key), V.int q.2)) (by show ¬ (Sum.inl q.1 : Key) = Sum.inl o; intro z; injection z with z; exact h z)
      rw [e, ih]
      simp [getI, h]
theorem any_kvI {o : Int} {m : List (Int × Int)} : ((kvI m).any fun kv => decide (kv.1 = (Sum.inl o : Key))) = m.any fun q => decide (q.1 = o) := by
  unfold kvI
  rw [List.any_map]
  congr 1
  funext q
  show decide ((Sum.inl q.1 : Key) = Sum.inl o) = decide (q.1 = o)
  exact decide_eq_decide.mpr ⟨fun z => by injection z, fun z => by rw [z]⟩
theorem putK_kvI {o c : Int} {m : List (Int × Int)} : putK (kvI m) (Sum.inl o) (V.int c) = kvI (putI m o c) := by
  unfold putK putI
  rw [any_kvI]
  by_cases h : (m.any fun q => decide (q.1 = o)) = true
  · rw [if_pos h, if_pos h]
    unfold kvI
    rw [List.map_map, List.map_map]
    refine List.map_congr_left fun q _ => ?_
    show (if (Sum.inl q.1 : Key) = Sum.inl o then ((Sum.inl q.1 : Key), V.int c) else (Sum.inl q.1, V.int q.2)) = (Sum.inl (if q.1 = o then (q.1, c) else q).1, V.int (if q.1 = o then (q.1, c) else q).2)
    by_cases hq : q.1 = o
    · rw [if_pos hq, if_pos (by rw [hq])]
    · rw [if_neg hq, if_neg (by intro z; injection z with z; exact hq z)]
  · rw [if_neg h, if_neg h]
    unfold kvI
    rw [List.map_append]
    rfl
theorem optInt_inj {a b : Option Int} (h : a.map V.int = b.map V.int) : a = b := by
  cases a <;> cases b <;> simp at h ⊢
  exact h
theorem getI_put {m : List (Int × Int)} {o c j : Int} : getI (putI m o c) j = if j = o then some c else getI m j := by
  refine optInt_inj ?_
  rw [← valV_kvI, ← putK_kvI, valV_put]
  by_cases h : j = o
  · rw [if_pos (by rw [h]), if_pos h]
    rfl
  · rw [if_neg (by intro z; injection z with z; exact h z), if_neg h, valV_kvI]
theorem len_put {m : List (Int × Int)} {o c : Int} : (putI m o c).length ≤ m.length + 1 := by
  unfold putI
  split <;> simp
theorem keys_put {m : List (Int × Int)} {o c : Int} : (putI m o c).map (·.1) = if (m.any fun q => decide (q.1 = o)) = true then m.map (·.1) else m.map (·.1) ++ [o] := by
  unfold putI
  split
  · rw [List.map_map]
    refine List.map_congr_left fun q _ => ?_
    show (if q.1 = o then (q.1, c) else q).1 = q.1
    split <;> rfl
  · rw [List.map_append]
    rfl
theorem any_keys {m : List (Int × Int)} {o : Int} : (m.any fun q => decide (q.1 = o)) = true ↔ o ∈ m.map (·.1) := by
  rw [List.any_eq_true, List.mem_map]
  exact ⟨fun ⟨q, h1, h2⟩ => ⟨q, h1, of_decide_eq_true h2⟩, fun ⟨q, h1, h2⟩ => ⟨q, h1, decide_eq_true h2⟩⟩
theorem nd_put {m : List (Int × Int)} {o c : Int} (h : (m.map (·.1)).Nodup) : ((putI m o c).map (·.1)).Nodup := by
  rw [keys_put]
  split
  · exact h
  · rename_i n
    rw [List.nodup_append]
    refine ⟨h, by simp, fun a ha b hb => ?_⟩
    rw [List.mem_singleton] at hb
    subst hb
    intro z
    subst z
    exact n (any_keys.mpr ha)
theorem getI_some {m : List (Int × Int)} {o : Int} : (getI m o).isSome = true ↔ o ∈ m.map (·.1) := by
  unfold getI
  rw [Option.isSome_map, List.find?_isSome, List.mem_map]
  exact ⟨fun ⟨q, h1, h2⟩ => ⟨q, h1, of_decide_eq_true h2⟩, fun ⟨q, h1, h2⟩ => ⟨q, h1, decide_eq_true h2⟩⟩
section
variable {ω : Type} {K : PySem.W.Frag} {O : OI ω} {G H : Hp} {td ty tx te ta tb : TE} {σ : L2.St} {a : Addr} {m : List (Int × Int)} {o z c : Int} {v : V} {De : Ends} {tz : TS}
theorem rd_ex {H H' : Hp} {a : Addr} {u : HO} (e : Ex H H') (h : Rd H a u) : Rd H' a u := ex_rd e h
theorem ev_dget2 (hd : Ev td σ G (.ref a)) (hm : G a = some (.dK (kvI m))) (hy : Ev ty σ G (.int o)) (hx : Ev tx σ G (.int z)) : Ev (tDGet2 td ty tx) σ G (.int ((getI m o).getD z)) := fun H1 e Q q =>
  hd H1 e _ fun H2 e2 => ⟨a, rfl, Or.inl ⟨kvI m, Or.inl (e2 a _ (e a _ hm))⟩, hy H2 (e.trans e2) _ fun H3 e3 => hx H3 ((e.trans e2).trans e3) _ fun H4 e4 =>
    ⟨_, DGet.k (k := Sum.inl o) (((e.trans e2).trans e3).trans e4 a _ hm), by
      rw [valV_kvI]
      have q' := q H4 ((e2.trans e3).trans e4)
      cases hg : getI m o with
      | none => rw [hg] at q'; exact q'
      | some x => rw [hg] at q'; exact q'⟩⟩
theorem ev_dget (hd : Ev td σ G (.ref a)) (hm : G a = some (.dK (kvI m))) (hy : Ev ty σ G (.int o)) (hc : getI m o = some c) : Ev (tDGet td ty) σ G (.int c) := fun H1 e Q q =>
  hd H1 e _ fun H2 e2 => hy H2 (e.trans e2) _ fun H3 e3 => ⟨a, .int c, rfl, by
      have h1 := DGet.k (k := Sum.inl o) ((e.trans e2).trans e3 a _ hm)
      rw [valV_kvI, hc] at h1
      exact h1, q H3 (e2.trans e3)⟩
theorem s_setD (hm : H a = some (.dK (kvI m))) (h : Ev te σ H (.int c)) (ho : Ev ta σ H (.ref a)) (hi : Ev tb σ H (.int o)) (hz : m.length < 100000) (k : ∀ H1, Ex H H1 → De.nx σ (upd H1 a (.dK (kvI (putI m o c))))) :
    tAsg te (gSub ta tb rSetD) De σ H := h H (Ex.refl H) _ fun H1 e1 => ho H1 e1 _ fun H2 e2 => hi H2 (e1.trans e2) _ fun H3 e3 =>
  ⟨a, _, rfl, DPut.k (k := Sum.inl o) (v := .int c) (((e1.trans e2).trans e3) a _ hm) (by unfold kvI; rw [List.length_map]; exact sz_lt hz), by
    rw [putK_kvI]
    exact k H3 ((e1.trans e2).trans e3)⟩
theorem q_setD (hm : H a = some (.dK (kvI m))) (h : Ev te σ H (.int c)) (ho : Ev ta σ H (.ref a)) (hi : Ev tb σ H (.int o)) (hz : m.length < 100000) (k : ∀ H1, Ex H H1 → tz De σ (upd H1 a (.dK (kvI (putI m o c))))) :
    tSeq (tAsg te (gSub ta tb rSetD)) tz De σ H := s_setD (De := { De with nx := tz De }) hm h ho hi hz k
/-- {} -/
theorem q_newD {i : Nat} (k : ∀ p, H p = none → tz De (σ.set i (some (.ref p))) (upd H p (.dK []))) : tSeq (tAsg tDNewK (gName i)) tz De σ H := fun p hp => k p hp

/-! ### a dict's keys walked under a lock -/
mutual
def noObj : D ω → Bool
  | .lst l => noObjL l
  | .tup l => noObjL l
  | .dic _ => false
  | .obj _ => false
  | _ => true
def noObjL : List (D ω) → Bool
  | [] => true
  | d :: l => noObj d && noObjL l
end
theorem sql_swap {A B : Hp} {od : Obj} {kvs : List (Key × V)} {p : Addr} {xs : List V} (hne : ∀ x, x ≠ a → A x = B x) (hA : A a = some (.frz od (.dK kvs))) (h : SqL K A p xs) : SqL K B p xs := by
  rcases h with (h | ⟨o, h⟩) | h
  · have n : p ≠ a := by intro z; subst z; rw [hA] at h; cases h
    exact .inl (.inl (by rw [← hne p n]; exact h))
  · have n : p ≠ a := by intro z; subst z; rw [hA] at h; cases h
    exact .inl (.inr ⟨o, by rw [← hne p n]; exact h⟩)
  · exact .inr h
theorem sqt_swap {A B : Hp} {od : Obj} {kvs : List (Key × V)} {p : Addr} {xs : List V} (hne : ∀ x, x ≠ a → A x = B x) (hA : A a = some (.frz od (.dK kvs))) (h : SqT K A p xs) : SqT K B p xs := by
  rcases h with (h | ⟨o, h⟩) | h
  · have n : p ≠ a := by intro z; subst z; rw [hA] at h; cases h
    exact .inl (.inl (by rw [← hne p n]; exact h))
  · have n : p ≠ a := by intro z; subst z; rw [hA] at h; cases h
    exact .inl (.inr ⟨o, by rw [← hne p n]; exact h⟩)
  · exact .inr h
mutual
theorem at_swap {A B : Hp} {od : Obj} {kvs : List (Key × V)} (hne : ∀ x, x ≠ a → A x = B x) (hA : A a = some (.frz od (.dK kvs))) : ∀ {d : D ω} {v : V}, noObj d = true → At K O A d v → At K O B d v
  | .non, v, _, h => by rw [at_non] at h ⊢; exact h
  | .bl b, v, _, h => by rw [at_bl] at h ⊢; exact h
  | .int i, v, _, h => by rw [at_int] at h ⊢; exact h
  | .str x, v, _, h => by rw [at_str] at h ⊢; exact h
  | .lst l, v, n, h => by
    obtain ⟨p, vs, e, hs, as⟩ := at_lst.mp h
    have np : p ≠ a := by intro z; subst z; rw [hA] at hs; cases hs
    exact at_lst.mpr ⟨p, vs, e, (by rw [← hne p np]; exact hs), atL_swap hne hA (by simpa only [noObj] using n) as⟩
  | .tup l, v, n, h => by
    obtain ⟨p, vs, e, hs, as⟩ := at_tup.mp h
    exact at_tup.mpr ⟨p, vs, e, sqt_swap hne hA hs, atL_swap hne hA (by simpa only [noObj] using n) as⟩
  | .dic m, v, n, h => by simp only [noObj] at n; cases n
  | .obj w, v, n, h => by simp only [noObj] at n; cases n
theorem atL_swap {A B : Hp} {od : Obj} {kvs : List (Key × V)} (hne : ∀ x, x ≠ a → A x = B x) (hA : A a = some (.frz od (.dK kvs))) : ∀ {l : List (D ω)} {vs : List V}, noObjL l = true → AtL K O A l vs → AtL K O B l vs
  | [], vs, _, h => by rw [atL_nil] at h ⊢; exact h
  | d :: l, vs, n, h => by
    obtain ⟨v, r, e, h1, h2⟩ := atL_cons.mp h
    simp only [noObjL, Bool.and_eq_true] at n
    exact atL_cons.mpr ⟨v, r, e, at_swap hne hA n.1 h1, atL_swap hne hA n.2 h2⟩
end
/-- a comprehension over a known dict: within, the dict stands locked -/
theorem ed_lock {t : TE} {d : D ω} {u : HO} (hm : G a = some u) (hu : Mut (some u)) (hk : ∃ kvs, u = .dK kvs) (n : noObj d = true) (h : ∀ od, EvD K O t σ (upd G a (.frz od u)) d) : EvD K O (tLockE t) σ G d := fun H1 e Q k => by
  obtain ⟨kvs, rfl⟩ := hk
  refine ⟨a, _, e a _ hm, hu, fun od => ?_⟩
  have e1 : Ex (upd G a (.frz od (.dK kvs))) (upd H1 a (.frz od (.dK kvs))) := fun x y q => by
    by_cases z : x = a
    · subst z; rw [upd_same] at q ⊢; exact q
    · rw [upd_ne z] at q ⊢; exact e x y q
  refine h od _ e1 _ fun v G2 H2 l av => ⟨l.h a _ upd_same, ?_⟩
  have hG2 : G2 a = some (.frz od (.dK kvs)) := l.g a _ upd_same
  have hH2 : H2 a = some (.frz od (.dK kvs)) := l.h a _ upd_same
  refine k v (upd G2 a (.dK kvs)) (upd H2 a (.dK kvs)) ⟨fun x y q => ?_, fun x y q => ?_, fun x y q => ?_, fun x hg hh => ?_, fun x ps q => ?_⟩ (at_swap (fun x z => by rw [upd_ne z]) hG2 n av)
  · by_cases z : x = a
    · subst z; rw [upd_same, ← q]; exact (e x _ hm).symm
    · rw [upd_ne z]; exact l.h x y (by rw [upd_ne z]; exact q)
  · by_cases z : x = a
    · subst z; rw [upd_same, ← q]; exact hm.symm
    · rw [upd_ne z]; exact l.g x y (by rw [upd_ne z]; exact q)
  · by_cases z : x = a
    · subst z; rw [upd_same] at q ⊢; exact q
    · rw [upd_ne z] at q ⊢; exact l.e x y q
  · by_cases z : x = a
    · subst z; rw [hm] at hg; cases hg
    · rw [upd_ne z]; exact l.f x (by rw [upd_ne z]; exact hg) (by rw [upd_ne z]; exact hh)
  · by_cases z : x = a
    · subst z; rw [upd_same] at q; cases q
    · rw [upd_ne z] at q
      have := l.t x ps q
      rwa [upd_ne z] at this
/-- its keys -/
theorem src_keys {od : Obj} (hd : Ev td σ G (.ref a)) (hm : G a = some (.frz od (.dK (kvI m)))) : Src K O (iKeys td) σ G (m.map fun q => D.int q.1) := fun H1 e R k =>
  hd H1 e _ fun H2 e2 => by
    refine ⟨a, od, rfl, Or.inl ⟨kvI m, e2 a _ (e a _ hm), ?_⟩⟩
    refine k (Itk a od (kvI m)) _ _ G H2 (Le.heap e e2) (by rw [show (m.map fun q => (D.int q.1 : D ω)).length = (kvI m).length by simp [kvI]]; exact walk_keys) (fun H x => x a _ hm) fun i Gi Hi x Hi' eg eh hi y => ?_
    obtain ⟨rfl, kk, vv, h1, rfl⟩ := y
    have hi' : i < m.length := by simpa using hi
    have e3 : (kvI m)[i]? = some (Sum.inl (m[i]).1, V.int (m[i]).2) := by simp [kvI, hi']
    rw [e3] at h1
    cases h1
    exact ⟨.int (m[i]).1, Gi, by simp [hi'], Le.refl eh, at_int.mpr rfl⟩
end
end SR
set_option maxRecDepth 100000
set_option maxHeartbeats 4000000
namespace SR
open PySem PySem.Spec PyProof.Rows L2 Evl
/-! ### sorted ints -/
def srt (l : List Int) : List Int := l.mergeSort fun a b => decide (a ≤ b)
theorem srt_perm {l : List Int} : (srt l).Perm l := List.mergeSort_perm l _
theorem srt_pair {l : List Int} : (srt l).Pairwise (· ≤ ·) := by
  have h := List.pairwise_mergeSort (le := fun a b : Int => decide (a ≤ b)) (fun a b c h1 h2 => decide_eq_true (Int.le_trans (of_decide_eq_true h1) (of_decide_eq_true h2))) (fun a b => by
    rcases Int.le_total a b with h | h
    · simp [h]
    · simp [h]) l
  exact h.imp fun h => of_decide_eq_true h
theorem srt_one {l m : List Int} (h : m.Perm l) (p : m.Pairwise (· ≤ ·)) : m = srt l := PySem.W.ksm_same (h.trans srt_perm.symm) p srt_pair
section
variable {ω : Type} {K : PySem.W.Frag} {O : OI ω} {G H : Hp} {te : TE} {σ : L2.St}
theorem ed_sorted {ns : List Int} (h : EvD K O te σ G (.lst (ns.map D.int))) : EvD K O (tCB (rSortedI K) (tCons te tNil)) σ G (.lst ((srt ns).map D.int)) := fun H1 e Q k =>
  h H1 e _ fun v G2 H2 l a => by
    obtain ⟨p, vs, rfl, hs, as⟩ := at_lst.mp a
    obtain rfl := AtL.ints' as
    refine ⟨p, ns, rfl, sq_of (l.e _ _ hs), fun ns' q hp hq hn => ?_⟩
    obtain rfl := srt_one hp hq
    exact k (.ref q) (upd G2 q _) _ (l.trans (Le.new l.e hn)) (at_lst.mpr ⟨q, _, rfl, upd_same, AtL.ints⟩)
end
/-! ### rows of two ints, their sums by the first -/
def rowD {ω : Type} (c : D ω) (q : Int × Int) : Prop := c = .lst [.int q.1, .int q.2] ∨ c = .tup [.int q.1, .int q.2]
def pairD {ω : Type} (q : Int × Int) : D ω := .tup [.int q.1, .int q.2]
inductive RowsL {ω : Type} : List (D ω) → List (Int × Int) → Prop where
  | nil : RowsL [] []
  | cons {c q l r} (h : rowD c q) (t : RowsL l r) : RowsL (c :: l) (q :: r)
def RowsD {ω : Type} (d : D ω) (rows : List (Int × Int)) : Prop := ∃ l, (d = .lst l ∨ d = .tup l) ∧ RowsL l rows
theorem RowsL.len {ω : Type} {l : List (D ω)} {r : List (Int × Int)} (h : RowsL l r) : l.length = r.length := by
  induction h with
  | nil => rfl
  | cons _ _ ih => simp [ih]
theorem RowsL.get {ω : Type} {l : List (D ω)} {r : List (Int × Int)} (h : RowsL l r) : ∀ {i : Nat} {c : D ω}, l[i]? = some c → ∃ q, r[i]? = some q ∧ rowD c q := by
  induction h with
  | nil => intro i c e; simp at e
  | cons h t ih =>
    intro i c e
    cases i with
    | zero =>
      have e' := Option.some.inj e
      subst e'
      exact ⟨_, rfl, h⟩
    | succ i => exact ih (i := i) (by simpa using e)
theorem RowsL.pairs {ω : Type} : ∀ {r : List (Int × Int)}, RowsL (ω := ω) (r.map pairD) r
  | [] => .nil
  | q :: r => .cons (Or.inr rfl) RowsL.pairs
def step (p : Int) (m : List (Int × Int)) (q : Int × Int) : List (Int × Int) := putI m q.1 (((getI m q.1).getD 0 + q.2).fmod p)
def sums (p : Int) (rows : List (Int × Int)) : List (Int × Int) := rows.foldl (step p) []
theorem sums_more {p : Int} {rows : List (Int × Int)} {i : Nat} {q : Int × Int} (h : rows[i]? = some q) : sums p (rows.take (i + 1)) = step p (sums p (rows.take i)) q := by
  unfold sums
  rw [take_snoc h, List.foldl_append]
  rfl
theorem sums_len {p : Int} : ∀ {rows m : List (Int × Int)}, (rows.foldl (step p) m).length ≤ m.length + rows.length
  | [], m => by simp
  | q :: r, m => by
    have h1 := sums_len (p := p) (rows := r) (m := step p m q)
    have h2 := len_put (m := m) (o := q.1) (c := ((getI m q.1).getD 0 + q.2).fmod p)
    rw [List.foldl_cons, List.length_cons]
    unfold step at h1
    unfold step
    omega
theorem sums_nd {p : Int} : ∀ {rows m : List (Int × Int)}, (m.map (·.1)).Nodup → ((rows.foldl (step p) m).map (·.1)).Nodup
  | [], m, h => h
  | q :: r, m, h => sums_nd (rows := r) (m := step p m q) (nd_put h)
def coef (p : Int) (rows : List (Int × Int)) (o : Int) : Int := (getI (sums p rows) o).getD 0
def coll (p : Int) (rows : List (Int × Int)) : List (Int × Int) := ((srt ((sums p rows).map (·.1))).filter fun o => coef p rows o != 0).map fun o => (o, coef p rows o)
/-- the coefficient: the sum of the second ones at the place, modulo p -/
def tot (rows : List (Int × Int)) (o : Int) : Int := (rows.filter fun q => q.1 == o).foldl (fun s q => s + q.2) 0
theorem et_yes {σ : L2.St} {G : Hp} : EvT tYes σ G true := fun H1 _ Q q => q H1 (Ex.refl H1)
theorem noObj_ints {ω : Type} : ∀ {l : List Int}, noObjL (ω := ω) (l.map D.int) = true
  | [] => rfl
  | n :: r => by
    show (noObj (D.int n : D ω) && noObjL (r.map D.int)) = true
    rw [noObj_ints]
    rfl
theorem ev_int1 {te : TE} {σ : L2.St} {G : Hp} {i : Int} (h : Ev te σ G (.int i)) : Ev (tCB (fun xs H Q => (∃ i, xs = [V.int i] ∧ Q (.int i) H) ∨ ∃ k, xs = [V.bl k] ∧ Q (.int (if k then 1 else 0)) H) (tCons te tNil)) σ G (.int i) := fun H1 e Q q =>
  h H1 e _ fun H2 e2 => Or.inl ⟨i, rfl, q H2 e2⟩
theorem et_truI {te : TE} {K : PySem.W.Frag} {σ : L2.St} {G : Hp} {i : Int} (h : Ev te σ G (.int i)) : EvT (fun σ H Q => te σ H fun x H' => ∃ k, TruV K x H' k ∧ Q k H') σ G (i != 0) := fun H1 e Q q => h H1 e _ fun H2 e2 => ⟨i != 0, rfl, q H2 e2⟩
end SR
set_option maxRecDepth 100000
set_option maxHeartbeats 4000000
/-! The rules whose readings name the written part, with that part told: for a comprehension's block. -/
namespace SR
open PySem PySem.Spec PyProof.Rows L2 Evl
def tTruK (K : PySem.W.Frag) (ta : TE) : TT := fun σ H Q => ta σ H fun x H' => ∃ k, TruV K x H' k ∧ Q k H'
section
variable {X : Cx} {a b e : Expr} {es : List Expr} {ta tb : TE} {t : TA} {tg : TGs} {pos p : Pos} {n k : Nat} {x : Str} {f : Str}
theorem pt_truK (K : PySem.W.Frag) (ha : PE X a ta) (he : ∀ whole, isTrue a X.env whole = (do let v ← whole; standAt a.pos; holding [v] (truthy v))) (hK : X.K = K := by rfl) : PT X a (tTruK K ta) := by
  subst hK
  exact pt_truth ha he
theorem pe_ixK (K : PySem.W.Frag) (ha : PE X a ta) (hb : PE X b tb) (hs : PlainIx b) (hK : X.K = K := by rfl) : PE X (.Subscript a b pos) (tOp (fun x y H Q => rIxL K x y H Q ∨ rIxT K x y H Q) ta tb) := by
  subst hK
  exact pe_ix (IxR.or ix_list ix_tup) ha hb hs
theorem pe_ixLK (K : PySem.W.Frag) (ha : PE X a ta) (hb : PE X b tb) (hs : PlainIx b) (hK : X.K = K := by rfl) : PE X (.Subscript a b pos) (tOp (rIxL K) ta tb) := by
  subst hK
  exact pe_ix ix_list ha hb hs
theorem pe_ixTK (K : PySem.W.Frag) (ha : PE X a ta) (hb : PE X b tb) (hs : PlainIx b) (hK : X.K = K := by rfl) : PE X (.Subscript a b pos) (tOp (rIxT K) ta tb) := by
  subst hK
  exact pe_ix ix_tup ha hb hs
theorem pg_tupK (K : PySem.W.Frag) (hc : X.calm = true) (h : PGs X es tg) (hn : (assignEach es X.env).length = k := by rfl) (hst : (assignEach es X.env).findIdx? (·.1) = none := by rfl) (hK : X.K = K := by rfl) : PG X (.Tuple es n pos) (gTup K k tg) := by
  subst hK
  exact pg_tup hc h hn hst
theorem pe_fldK (K : PySem.W.Frag) (he : PE X e ta) (hb : attributeBase e f X.env (eval e X.env) = eval e X.env := by rfl) (hK : X.K = K := by rfl) : PE X (.Attribute e f pos) (tFld K ta f) := by
  subst hK
  exact pe_fld he hb
theorem cr_allK (K : PySem.W.Frag) (hc : X.calm = true) (hK : X.K = K := by rfl) : CallR X (.builtin "all") (rAll K) := by
  subst hK
  exact cr_all hc
theorem cr_anyK (K : PySem.W.Frag) (hc : X.calm = true) (hK : X.K = K := by rfl) : CallR X (.builtin "any") (rAny K) := by
  subst hK
  exact cr_any hc
theorem call_lenK (K : PySem.W.Frag) (hK : X.K = K := by rfl) : CallR X (.builtin "len") (fun xs H Q => ∃ p ys, xs = [V.ref p] ∧ (SqL K H p ys ∨ SqT K H p ys) ∧ Q (.int ys.length) H) := by
  subst hK
  exact call_len_seq
theorem call_isiK' (K : PySem.W.Frag) (hK : X.K = K := by rfl) : CallR X (.builtin "isinstance") (rIsi K) := by
  subst hK
  exact call_isi
theorem call_isiTK (K : PySem.W.Frag) (hK : X.K = K := by rfl) : CallR X (.builtin "isinstance") (rIsiT K) := by
  subst hK
  exact call_isiT
end
end SR
set_option maxRecDepth 100000
set_option maxHeartbeats 4000000
namespace SR
open PySem PySem.Spec PyProof.Rows L2 Evl
theorem putI_new {a : List (Int × Int)} {o c : Int} (h : o ∉ a.map (·.1)) : putI a o c = a ++ [(o, c)] := by
  unfold putI
  rw [if_neg (fun z => h (any_keys.mp z))]
theorem mergeK_kvI : ∀ {b a : List (Int × Int)}, ((a ++ b).map (·.1)).Nodup → mergeK (kvI a) (kvI b) = kvI (a ++ b)
  | [], a, _ => by rw [List.append_nil]; rfl
  | q :: r, a, h => by
    have hn : q.1 ∉ a.map (·.1) := by
      rw [List.map_append, List.map_cons, List.nodup_append] at h
      intro z
      exact h.2.2 q.1 z q.1 (List.mem_cons_self ..) rfl
    show mergeK (putK (kvI a) (Sum.inl q.1) (V.int q.2)) (kvI r) = kvI (a ++ q :: r)
    rw [putK_kvI, putI_new hn]
    have e : a ++ q :: r = (a ++ [q]) ++ r := by simp
    rw [e]
    exact mergeK_kvI (by rw [← e]; exact h)
theorem nd_map_fst {l : List Int} {f : Int → Int} : ((l.map fun o => (o, f o)).map (·.1)) = l := by
  rw [List.map_map]
  exact List.map_id' l
theorem coll_nd {p : Int} {rows : List (Int × Int)} : ((coll p rows).map (·.1)).Nodup := by
  unfold coll
  rw [nd_map_fst]
  exact (srt_perm.nodup_iff.mpr (sums_nd (rows := rows) (m := []) List.nodup_nil)).filter _
theorem coll_len {p : Int} {rows : List (Int × Int)} : (coll p rows).length ≤ rows.length := by
  unfold coll
  rw [List.length_map]
  refine Nat.le_trans (List.length_filter_le ..) ?_
  rw [srt_perm.length_eq, List.length_map]
  have h5 := sums_len (p := p) (rows := rows) (m := [])
  simp only [List.length_nil] at h5
  unfold sums
  omega
/-! ### what a Filter holds -/
structure FilS where
  p : Int
  ps : List (Int × Int)
def flds (p : Int) (tp kd : Addr) : List (Str × V) := [("prime", .int p), ("pairs", .ref tp), ("coefficients", .ref kd)]
abbrev TsAt (K : PySem.W.Frag) (H : Hp) (ts : List Addr) (ps : List (Int × Int)) : Prop := Paired (fun t q => SqT K H t [.int q.1, .int q.2]) ts ps
def FilAt (K : PySem.W.Frag) (C : Addr) (H : Hp) (a : Addr) (w : FilS) : Prop := ∃ dx tp o ts kd, H a = some (.ins C dx (flds w.p tp kd)) ∧ o.dict = none ∧ H tp = some (.frz o (.tup (ts.map V.ref))) ∧ TsAt K H ts w.ps ∧ H kd = some (.dK (kvI w.ps))
theorem TsAt.mono {K : PySem.W.Frag} {H H' : Hp} (e : Ex H H') {ts : List Addr} {ps : List (Int × Int)} (h : TsAt K H ts ps) : TsAt K H' ts ps := Paired.mapP h fun _ _ q => ex_t e q
def FilO (K : PySem.W.Frag) (C : Addr) : OI FilS where
  at_ := FilAt K C
  mono := fun e ⟨dx, tp, o, ts, kd, h1, h2, h3, h4, h5⟩ => ⟨dx, tp, o, ts, kd, e _ _ h1, h2, e _ _ h3, h4.mono e, e _ _ h5⟩
theorem atL_pairs {ω : Type} {K : PySem.W.Frag} {O : OI ω} {H : Hp} : ∀ {ts : List Addr} {ps : List (Int × Int)}, TsAt K H ts ps → AtL K O H (ps.map pairD) (ts.map V.ref)
  | _, _, .nil => atL_nil.mpr rfl
  | _, _, .cons h t => atL_cons.mpr ⟨_, _, rfl, at_tup.mpr ⟨_, _, rfl, h, atL_cons.mpr ⟨_, _, rfl, at_int.mpr rfl, atL_cons.mpr ⟨_, _, rfl, at_int.mpr rfl, atL_nil.mpr rfl⟩⟩⟩, atL_pairs t⟩
theorem pairs_atL {ω : Type} {K : PySem.W.Frag} {O : OI ω} {H : Hp} : ∀ {ps : List (Int × Int)} {vs : List V}, AtL K O H (ps.map pairD) vs → ∃ ts : List Addr, vs = ts.map V.ref ∧ TsAt K H ts ps
  | [], vs, h => ⟨[], by rw [atL_nil.mp h]; rfl, .nil⟩
  | q :: r, vs, h => by
    obtain ⟨v, w, rfl, h1, h2⟩ := atL_cons.mp h
    obtain ⟨t, us, rfl, hs, as⟩ := at_tup.mp h1
    obtain ⟨x1, r1, rfl, a1, n1⟩ := atL_cons.mp as
    obtain ⟨x2, r2, rfl, a2, n2⟩ := atL_cons.mp n1
    obtain rfl := atL_nil.mp n2
    obtain rfl := at_int.mp a1
    obtain rfl := at_int.mp a2
    obtain ⟨ts, rfl, ht⟩ := pairs_atL h2
    exact ⟨t :: ts, rfl, .cons hs ht⟩
/-- the class as the top has made it, for its fields -/
structure FilC (K : PySem.W.Frag) (C : Addr) : Prop where
  cl : Cls K C
  n1 : NoAttr K C "prime"
  n2 : NoAttr K C "pairs"
  n3 : NoAttr K C "coefficients"
theorem lk1 {p : Int} {tp kd : Addr} : (flds p tp kd).lookup ("prime" : Str) = some (.int p) := by
  unfold flds
  simp [List.lookup]
theorem lk2 {p : Int} {tp kd : Addr} : (flds p tp kd).lookup ("pairs" : Str) = some (.ref tp) := by
  unfold flds
  have h : (("pairs" : Str) == "prime") = false := by decide +kernel
  simp [List.lookup, h]
theorem lk3 {p : Int} {tp kd : Addr} : (flds p tp kd).lookup ("coefficients" : Str) = some (.ref kd) := by
  unfold flds
  have h : (("coefficients" : Str) == "prime") = false := by decide +kernel
  have h2 : (("coefficients" : Str) == "pairs") = false := by decide +kernel
  simp [List.lookup, h, h2]
theorem lkN {p : Int} {tp kd : Addr} {m : Str} (h1 : (m == "prime") = false) (h2 : (m == "pairs") = false) (h3 : (m == "coefficients") = false) : (flds p tp kd).lookup m = none := by
  unfold flds
  simp [List.lookup, h1, h2, h3]
section
variable {K : PySem.W.Frag} {C : Addr} {G H : Hp} {te ta : TE} {σ : L2.St} {w : FilS}
theorem ev_prime (c : FilC K C) (h : EvD K (FilO K C) te σ G (.obj w)) : Ev (tFld K te "prime") σ G (.int w.p) := fun H1 e Q q =>
  h H1 e _ fun v G2 H2 l a => by
    obtain ⟨x, rfl, dx, tp, o, ts, kd, h1, h2, h3, h4, h5⟩ := at_obj.mp a
    exact ⟨x, C, dx, _, _, rfl, l.e _ _ h1, c.cl, c.n1, lk1, q H2 l.h⟩
/-- self.pairs: the tuple -/
theorem ed_pairs (c : FilC K C) (h : EvD K (FilO K C) te σ G (.obj w)) : EvD K (FilO K C) (tFld K te "pairs") σ G (.tup (w.ps.map pairD)) := fun H1 e Q k =>
  h H1 e _ fun v G2 H2 l a => by
    obtain ⟨x, rfl, dx, tp, o, ts, kd, h1, h2, h3, h4, h5⟩ := at_obj.mp a
    exact ⟨x, C, dx, _, _, rfl, l.e _ _ h1, c.cl, c.n2, lk2, k _ G2 H2 l (at_tup.mpr ⟨tp, _, rfl, Or.inl (Or.inr ⟨o, h3⟩), atL_pairs h4⟩)⟩
theorem ed_coefs (c : FilC K C) (h : EvD K (FilO K C) te σ G (.obj w)) : EvD K (FilO K C) (tFld K te "coefficients") σ G (.dic w.ps) := fun H1 e Q k =>
  h H1 e _ fun v G2 H2 l a => by
    obtain ⟨x, rfl, dx, tp, o, ts, kd, h1, h2, h3, h4, h5⟩ := at_obj.mp a
    exact ⟨x, C, dx, _, _, rfl, l.e _ _ h1, c.cl, c.n3, lk3, k _ G2 H2 l (at_dic.mpr ⟨kd, rfl, h5⟩)⟩
end
end SR
set_option maxRecDepth 100000
set_option maxHeartbeats 4000000
/-! == of nested lists, tuples, dicts and instances with an own ==, whatever it gives. -/
namespace SR
open PySem PySem.Spec PyProof.Rows L2 Evl
open PySem.SeqAt MeetsSeq MeetsSeq2 MeetsSeq3 SeqRoads2
open AutoSeq1 (wpAny_loadPart')

section
variable {prog : Program} {w : World} {A : Around} {R : Result → Shared → Prop}
def ListB (prog : Program) (w : World) (A : Around) (E : Value → Shared → Prop) (l b : Addr) (N : Nat) (c : Nat → Bool) (I : Shared → Prop) : Prop :=
  ∀ i s, I s → ∃ (items items2 : Array Value) (n n2 : Nat), s.heap.get? l = some { cls := .type "list", data := .seq items n } ∧ s.heap.get? b = some { cls := .type "list", data := .seq items2 n2 } ∧ items.size = N ∧ items2.size = N ∧
    ∀ (h1 : i < items.size) (h2 : i < items2.size), wpAny (model prog w) A.in1 (eqBool items[i] items2[i]) (fun r s' => r = c i ∧ I s') E s
theorem eq_loopB (l b : Addr) (N : Nat) (c : Nat → Bool) (t : Bool) (I : Shared → Prop) (ht : ∀ i, i < N → c i = false → t = false) (ht' : (∀ i, i < N → c i = true) → t = true) (hl : ListB prog w A (fun e s' => R (.error e) s') l b N c I)
    (fin : ∀ s, I s → R (.ok (.ret (.bool t))) s) (k : Nat) :
    ∀ i : Nat, N - i = k → i ≤ N → (∀ j, j < i → c j = true) → ∀ s, I s →
      wpAny (model prog w) A.in1 (Builtin.«list.__eq__.loop» ⟨[.ref l, .ref b, rawInt i, rawInt 2], []⟩) (GQ.FinOf prog w A R) (fun e s' => R (.error e) s') s := by
  induction k with
  | zero =>
    intro i hk hi hp0 s h
    obtain ⟨items, items2, n, n2, hl1, hb1, hs1, hs2, _⟩ := hl i _ h
    have hi' : i = N := by omega
    have hR : R (.ok (.ret (.bool t))) s := fin s h
    rw [ht' (fun j hj => hp0 j (by omega))] at hR
    obtain ⟨hp, g, d, tk, os⟩ := s
    wp_walk using wpAny_loadPart' hl1, wpAny_loadPart' hb1
    have hi1 : items[((i : Nat) : Int).toNat]? = none := by simp; omega
    have hi2 : items2[((i : Nat) : Int).toNat]? = none := by simp; omega
    rw [hi1, hi2]
    wp_walk using wpAny_loadPart' hl1, wpAny_loadPart' hb1
    show R (.ok (.ret (.bool (items.size == items2.size)))) _
    rw [hs1, hs2]
    simpa using hR
  | succ k ih =>
    intro i hk hi hp0 s h
    obtain ⟨items, items2, n, n2, hl1, hb1, hs1, hs2, turn⟩ := hl i _ h
    have hlt : i < items.size := by omega
    have hlt2 : i < items2.size := by omega
    have hturn := turn hlt hlt2
    obtain ⟨hp, g, d, tk, os⟩ := s
    wp_walk using wpAny_loadPart' hl1, wpAny_loadPart' hb1
    have hi1 : items[((i : Nat) : Int).toNat]? = some items[i] := by simp [hlt]
    have hi2 : items2[((i : Nat) : Int).toNat]? = some items2[i] := by simp [hlt2]
    have hc : ((i : Int) + 1) = ((i + 1 : Nat) : Int) := by omega
    rw [hi1, hi2]
    refine wpAny_bind (wpAny_mono hturn (fun r s2 h2 => ?_) fun _ _ x => x)
    obtain ⟨hr, h2⟩ := h2
    subst hr
    cases hci : c i with
    | false =>
      have hR := fin s2 h2
      rw [ht i (by omega) hci] at hR
      obtain ⟨it', it2', n', n2', hl1', hb1', hs1', hs2', _⟩ := hl i _ h2
      have g1 : it'[((i : Nat) : Int).toNat]? = some it'[i] := by simp
      have g2 : it2'[((i : Nat) : Int).toNat]? = some it2'[i] := by simp
      obtain ⟨hp2, g2', d2, tk2, os2⟩ := s2
      wp_walk using wpAny_loadPart' hl1', wpAny_loadPart' hb1'
      rw [g1, g2]
      wp_walk
      exact hR
    | true =>
      have hrec := ih (i + 1) (by omega) (by omega) (fun j hj => by
        rcases Nat.lt_or_ge j i with q | q
        · exact hp0 j q
        · have : j = i := by omega
          rw [this]; exact hci) s2 h2
      obtain ⟨hp2, g2, d2, tk2, os2⟩ := s2
      wp_walk
      rw [hc]
      exact ⟨plainId_quiet plain_eq_loop _, codeAny_builtin entry_eq_loop (by
        rw [Around.under_plainId plain_eq_loop _]
        exact hrec)⟩
theorem list_eqB (l b : Addr) (N : Nat) (c : Nat → Bool) (t : Bool) (I : Shared → Prop) (ht : ∀ i, i < N → c i = false → t = false) (ht' : (∀ i, i < N → c i = true) → t = true) (hl : ListB prog w A (fun e s' => R (.error e) s') l b N c I)
    (fin : ∀ s, I s → R (.ok (.ret (.bool t))) s) {s : Shared} (h : I s) :
    wpAny (model prog w) A.in1 (Builtin.«list.__eq__» ⟨[.ref l, .ref b], []⟩) (GQ.FinOf prog w A R) (fun e s' => R (.error e) s') s := by
  obtain ⟨items, items2, n, n2, hl1, hb1, hs1, hs2, _⟩ := hl 0 _ h
  have hrec := eq_loopB (A := A) (R := R) l b N c t I ht ht' hl fin _ 0 rfl (Nat.zero_le _) (fun j hj => absurd hj (Nat.not_lt_zero _)) s h
  obtain ⟨hp, g, d, tk, os⟩ := s
  have f3 := AutoSeq1.sub_list_list
  have hne : ¬ (items.size != items2.size) = true := by simp [hs1, hs2]
  wp_walk using wpAny_loadPart' hl1, wpAny_loadPart' hb1
  exact ⟨plainId_quiet plain_eq_loop _, codeAny_builtin entry_eq_loop (by
    rw [Around.under_plainId plain_eq_loop _]
    exact hrec)⟩
theorem tuple_eqB (l b : Addr) (items items2 : Array Value) (n n2 : Nat) (dd dd2 : Option Addr) (sl sl2 : Array (Option Value)) (c : Nat → Bool) (t : Bool) (I : Shared → Prop)
    (ht : ∀ i, i < min items.size items2.size → c i = false → t = false) (ht' : (∀ i, i < min items.size items2.size → c i = true) → t = (items.size == items2.size))
    (turn : ∀ i (h1 : i < items.size) (h2 : i < items2.size) s, I s → wpAny (model prog w) A.in1 (eqBool items[i] items2[i]) (fun r s' => r = c i ∧ I s') (fun e s' => R (.error e) s') s)
    (fin : ∀ s, I s → R (.ok (.ret (.bool t))) s) {s : Shared} (hl1 : s.heap.get? l = some { cls := .type "tuple", dict := dd, data := .seq items n, slots := sl }) (hb1 : s.heap.get? b = some { cls := .type "tuple", dict := dd2, data := .seq items2 n2, slots := sl2 }) (h : I s) :
    wpAny (model prog w) A.in1 (Builtin.«tuple.__eq__» ⟨[.ref l, .ref b], []⟩) (GQ.FinOf prog w A R) (fun e s' => R (.error e) s') s := by
  have f2 := AutoSeq1.sub_tuple_tuple
  have hZ : (items.toList.zip items2.toList).length = min items.size items2.size := by simp
  have h0 := h
  obtain ⟨hp, g, d, tk, os⟩ := s
  wp_walk using wpAny_loadPart' hl1, wpAny_loadPart' hb1, wpAny_forIn_list _ (fun rest b s' => I s' ∧ b.1 = none ∧ ∃ i, rest = (items.toList.zip items2.toList).drop i ∧ ∀ j, j < i → j < min items.size items2.size → c j = true) _
  case turn =>
    rintro ⟨y, x⟩ rest b s' ⟨hI, hb', i, hz, hpr⟩
    have hlt : i < (items.toList.zip items2.toList).length := by
      rcases Nat.lt_or_ge i (items.toList.zip items2.toList).length with h' | h'
      · exact h'
      · rw [List.drop_of_length_le h'] at hz; cases hz
    have hm : i < min items.size items2.size := hZ ▸ hlt
    have h1 : i < items.size := Nat.lt_of_lt_of_le hm (Nat.min_le_left _ _)
    have h2 : i < items2.size := Nat.lt_of_lt_of_le hm (Nat.min_le_right _ _)
    rw [List.drop_eq_getElem_cons hlt] at hz
    injection hz with hyx hrest
    have hy : y = items[i] := by have := congrArg Prod.fst hyx; simpa using this
    have hx : x = items2[i] := by have := congrArg Prod.snd hyx; simpa using this
    subst hy hx
    refine wpAny_bind (wpAny_mono (turn i h1 h2 s' hI) (fun r s2 q2 => ?_) fun _ _ x => x)
    obtain ⟨hr, q2⟩ := q2
    subst hr
    cases hci : c i with
    | true =>
      wp_walk
      exact ⟨q2, rfl, i + 1, hrest, fun j hj hjm => by
        rcases Nat.lt_or_ge j i with q | q
        · exact hpr j q hjm
        · have : j = i := by omega
          rw [this]; exact hci⟩
    | false =>
      have hR := fin s2 q2
      rw [ht i hm hci] at hR
      wp_walk
      exact hR
  case fin =>
    rintro ⟨b1, b2⟩ s' ⟨hI, hb', i, hz, hpr⟩
    simp only at hb'
    subst hb'
    have hge : min items.size items2.size ≤ i := by
      rcases Nat.lt_or_ge i (items.toList.zip items2.toList).length with h' | h'
      · rw [List.drop_eq_getElem_cons h'] at hz; cases hz
      · exact hZ ▸ h'
    have hR := fin s' hI
    rw [ht' fun j hj => hpr j (by omega) hj] at hR
    wp_walk
    simpa [Builtin.Tuple.tupleCompareSizes] using hR
  case h =>
    exact ⟨h0, rfl, 0, rfl, fun j hj => absurd hj (Nat.not_lt_zero _)⟩
end
section
variable {prog : Program} {w : World} {A : Around} {E : Value → Shared → Prop} {s : Shared}
theorem rc_listB {l b : Addr} {N : Nat} {c : Nat → Bool} {t : Bool} {Q : Value → Shared → Prop} (hu : A.units < cLine) (I : Shared → Prop) (ht : ∀ i, i < N → c i = false → t = false) (ht' : (∀ i, i < N → c i = true) → t = true) (hl : ListB prog w A E l b N c I)
    (fin : ∀ s, I s → Q (.bool t) s) (h : I s) : wpAny (model prog w) A (richCompare .Eq (.ref l) (.ref b)) Q E s := by
  obtain ⟨items, items2, n, n2, hl1, hb1, _, _, _⟩ := hl 0 _ h
  refine wpAny_richCompare_same_room (op := .Eq) ⟨_, hl1, rfl⟩ ⟨_, hb1, rfl⟩ F.slot_list_eq (GQ.call_here F.slot_list_eq ⟨_, hl1, rfl⟩ F.entry_list_eq (F.args_list_eq_2 _ _) ?_) hu
  exact list_eqB (R := wants (fun v s' => v ≠ .notImplemented ∧ Q v s') E) l b N c t I ht ht' hl (fun s' q => ⟨(fun x => nomatch x), fin s' q⟩) h
theorem rc_tupB {l b : Addr} {items items2 : Array Value} {c : Nat → Bool} {t : Bool} {Q : Value → Shared → Prop} (hu : A.units < cLine) (I : Shared → Prop)
    (ht : ∀ i, i < min items.size items2.size → c i = false → t = false) (ht' : (∀ i, i < min items.size items2.size → c i = true) → t = (items.size == items2.size))
    (hl : s.heap.IsTuple l items) (hb : s.heap.IsTuple b items2)
    (turn : ∀ i (h1 : i < items.size) (h2 : i < items2.size) s, I s → wpAny (model prog w) A.in1 (eqBool items[i] items2[i]) (fun r s' => r = c i ∧ I s') E s)
    (fin : ∀ s, I s → Q (.bool t) s) (h : I s) : wpAny (model prog w) A (richCompare .Eq (.ref l) (.ref b)) Q E s := by
  obtain ⟨⟨cls, dd, data, sl⟩, ho, hc, n, hd⟩ := id hl
  obtain ⟨⟨cls2, dd2, data2, sl2⟩, ho2, hc2, n2, hd2⟩ := id hb
  simp only at hc hd hc2 hd2
  subst hc hd hc2 hd2
  refine wpAny_richCompare_same_room (op := .Eq) ⟨_, ho, rfl⟩ ⟨_, ho2, rfl⟩ F.slot_tuple_eq (GQ.call_here F.slot_tuple_eq ⟨_, ho, rfl⟩ F.entry_tuple_eq (F.args_tuple_eq_2 _ _) ?_) hu
  exact tuple_eqB (R := wants (fun v s' => v ≠ .notImplemented ∧ Q v s') E) l b items items2 n n2 dd dd2 sl sl2 c t I ht ht' turn (fun s' q => ⟨(fun x => nomatch x), fin s' q⟩) ho ho2 h
end
end SR
set_option maxRecDepth 100000
set_option maxHeartbeats 4000000
namespace SR
open PySem PySem.Spec PyProof.Rows L2 Evl
open PySem.SeqAt

def dicEq (m m' : List (Int × Int)) : Bool := m.length == m'.length && m.all fun q => getI m' q.1 == some q.2
section
variable {ω : Type}
def DQL (P : D ω → D ω → Bool → Prop) : List (D ω) → List (D ω) → Bool → Prop
  | d :: l, e :: m, b => ∃ b1 b2, P d e b1 ∧ DQL P l m b2 ∧ b = (b1 && b2)
  | _, _, b => b = true
/-- what d == e gives, for things of like kinds, of nesting below n -/
def DQ (oq : ω → ω → Bool → Prop) : Nat → D ω → D ω → Bool → Prop
  | 0, d, e, b => match d, e with
    | .int i, .int j => b = decide (i = j)
    | .dic m, .dic m' => (m'.map (·.1)).Nodup ∧ b = dicEq m m'
    | .obj w, .obj u => oq w u b
    | _, _ => False
  | n + 1, d, e, b => match d, e with
    | .int i, .int j => b = decide (i = j)
    | .dic m, .dic m' => (m'.map (·.1)).Nodup ∧ b = dicEq m m'
    | .obj w, .obj u => oq w u b
    | .lst l, .lst m => (l.length ≠ m.length ∧ b = false) ∨ (l.length = m.length ∧ DQL (DQ oq n) l m b)
    | .tup l, .tup m => ∃ b', DQL (DQ oq n) l m b' ∧ b = (b' && l.length == m.length)
    | _, _ => False
theorem dql_get {P : D ω → D ω → Bool → Prop} : ∀ {l m : List (D ω)} {b : Bool}, DQL P l m b → ∃ c : Nat → Bool, (∀ i d e, l[i]? = some d → m[i]? = some e → P d e (c i)) ∧ (∀ i, i < min l.length m.length → c i = false → b = false) ∧ ((∀ i, i < min l.length m.length → c i = true) → b = true)
  | [], m, b, h => ⟨fun _ => true, fun i d e h1 => by simp at h1, fun i hi => by simp at hi, fun _ => by cases m <;> exact h⟩
  | d :: l, [], b, h => ⟨fun _ => true, fun i d e _ h1 => by simp at h1, fun i hi => by simp at hi, fun _ => h⟩
  | d :: l, e :: m, b, h => by
    obtain ⟨b1, b2, h1, h2, rfl⟩ := h
    obtain ⟨c, c1, c2, c3⟩ := dql_get h2
    refine ⟨fun i => match i with | 0 => b1 | i + 1 => c i, fun i x y hx hy => ?_, fun i hi hc => ?_, fun hc => ?_⟩
    · cases i with
      | zero =>
        cases Option.some.inj hx
        cases Option.some.inj hy
        exact h1
      | succ i => exact c1 i x y (by simpa using hx) (by simpa using hy)
    · cases i with
      | zero =>
        have : b1 = false := hc
        rw [this]; rfl
      | succ i =>
        rw [c2 i (by simp only [List.length_cons] at hi; omega) hc, Bool.and_false]
    · have z1 : b1 = true := hc 0 (by simp only [List.length_cons]; omega)
      rw [z1, c3 fun i hi => hc (i + 1) (by simp only [List.length_cons]; omega)]
      rfl
section
variable {K : PySem.W.Frag} {O : OI ω} {oq : ω → ω → Bool → Prop}
theorem dicEq_self {m : List (Int × Int)} (h : (m.map (·.1)).Nodup) : dicEq m m = true := by
  unfold dicEq
  have : (m.all fun q => getI m q.1 == some q.2) = true := by
    rw [List.all_eq_true]
    intro q hq
    have h1 : getI m q.1 = some q.2 := by
      induction m with
      | nil => cases hq
      | cons a r ih =>
        rw [List.map_cons, List.nodup_cons] at h
        unfold getI
        rw [List.find?_cons]
        by_cases e : a.1 = q.1
        · rw [decide_eq_true e]
          rcases List.mem_cons.mp hq with rfl | hr
          · rfl
          · exact absurd (e ▸ List.mem_map_of_mem hr) h.1
        · rw [decide_eq_false e]
          rcases List.mem_cons.mp hq with rfl | hr
          · exact absurd rfl e
          · exact ih h.2 hr
    rw [h1]; simp
  rw [this]; simp
theorem kvI_inj : ∀ {m m' : List (Int × Int)}, kvI m = kvI m' → m = m'
  | [], [], _ => rfl
  | [], _ :: _, h => by cases h
  | _ :: _, [], h => by cases h
  | (a, b) :: r, (c, d) :: s, h => by
    obtain ⟨h1, h2⟩ := List.cons.inj (show (Sum.inl a, V.int b) :: kvI r = (Sum.inl c, V.int d) :: kvI s from h)
    obtain ⟨h3, h4⟩ := Prod.mk.inj h1
    rw [Sum.inl.inj h3, V.int.inj h4, kvI_inj h2]
def OSame (O : OI ω) (oq : ω → ω → Bool → Prop) : Prop := ∀ H a w u b, O.at_ H a w → O.at_ H a u → oq w u b → b = true
theorem relInt {i j : Int} {v : Value} (h : RelV (.int i) v) (h' : RelV (.int j) v) : i = j := by
  obtain ⟨t, rfl⟩ := h
  obtain ⟨t', h2⟩ := h'
  cases h2
  rfl
theorem relRef {a b : Addr} {v : Value} (h : RelV (.ref a) v) (h' : RelV (.ref b) v) : a = b := by
  cases (show v = Value.ref a from h)
  cases (show Value.ref a = Value.ref b from h')
  rfl
section
variable {X : Cx} {pins : List (Addr × Obj)} {σ : L2.St} {H G : Hp} {s : Shared} {O : OI ω} {oq : ω → ω → Bool → Prop}
theorem dql_same {P : D ω → D ω → Bool → Prop} (ih : ∀ d e b x y v, P d e b → At X.K O G d x → At X.K O G e y → RelV x v → RelV y v → b = true) : ∀ {l m : List (D ω)} {b : Bool} {xs ys : List V} {vs : List Value}, DQL P l m b → AtL X.K O G l xs → AtL X.K O G m ys → Vals xs vs → Vals ys vs → b = true
  | [], m, b, xs, ys, vs, h, _, _, _, _ => by cases m <;> exact h
  | d :: l, [], b, xs, ys, vs, h, _, _, _, _ => h
  | d :: l, e :: m, b, xs, ys, vs, h, a1, a2, r1, r2 => by
    obtain ⟨b1, b2, h1, h2, rfl⟩ := h
    obtain ⟨v, r, rfl, x1, y1⟩ := atL_cons.mp a1
    obtain ⟨v', r', rfl, x2, y2⟩ := atL_cons.mp a2
    cases r1 with
    | cons p1 q1 =>
      cases r2 with
      | cons p2 q2 =>
        rw [ih d e b1 _ _ _ h1 x1 x2 p1 p2, dql_same ih h2 y1 y2 q1 q2]
        rfl
theorem dq_same (ho : OSame O oq) (I : Inv X pins σ H s) (e : Ex G H) : ∀ (n : Nat) (d c : D ω) (b : Bool) (x y : V) (v : Value), DQ oq n d c b → At X.K O G d x → At X.K O G c y → RelV x v → RelV y v → b = true := by
  intro n
  induction n with
  | zero =>
    intro d c b x y v h a1 a2 r1 r2
    cases d <;> cases c <;> first | exact False.elim h | skip
    case int.int i j =>
      rw [at_int.mp a1] at r1
      rw [at_int.mp a2] at r2
      rw [show b = decide (i = j) from h, decide_eq_true (relInt r1 r2)]
    case dic.dic m m' =>
      obtain ⟨a, rfl, g1⟩ := at_dic.mp a1
      obtain ⟨a', rfl, g2⟩ := at_dic.mp a2
      obtain rfl := relRef r1 r2
      rw [g1] at g2
      have e1 := kvI_inj (HO.dK.inj (Option.some.inj g2))
      subst e1
      rw [h.2]
      exact dicEq_self h.1
    case obj.obj w u =>
      obtain ⟨a, rfl, g1⟩ := at_obj.mp a1
      obtain ⟨a', rfl, g2⟩ := at_obj.mp a2
      obtain rfl := relRef r1 r2
      exact ho _ _ _ _ _ g1 g2 h
  | succ n ih =>
    intro d c b x y v h a1 a2 r1 r2
    cases d <;> cases c <;> first | exact False.elim h | skip
    case int.int i j =>
      rw [at_int.mp a1] at r1
      rw [at_int.mp a2] at r2
      rw [show b = decide (i = j) from h, decide_eq_true (relInt r1 r2)]
    case dic.dic m m' =>
      obtain ⟨a, rfl, g1⟩ := at_dic.mp a1
      obtain ⟨a', rfl, g2⟩ := at_dic.mp a2
      obtain rfl := relRef r1 r2
      rw [g1] at g2
      have e1 := kvI_inj (HO.dK.inj (Option.some.inj g2))
      subst e1
      rw [h.2]
      exact dicEq_self h.1
    case obj.obj w u =>
      obtain ⟨a, rfl, g1⟩ := at_obj.mp a1
      obtain ⟨a', rfl, g2⟩ := at_obj.mp a2
      obtain rfl := relRef r1 r2
      exact ho _ _ _ _ _ g1 g2 h
    case lst.lst l m =>
      obtain ⟨a, us, rfl, g1, as1⟩ := at_lst.mp a1
      obtain ⟨a', ws, rfl, g2, as2⟩ := at_lst.mp a2
      obtain rfl := relRef r1 r2
      rw [g1] at g2
      obtain rfl := HO.lst.inj (Option.some.inj g2)
      obtain ⟨z, its, k, r, e1⟩ := I.hok a _ (e _ _ g1)
      rcases h with ⟨h, _⟩ | ⟨_, h⟩
      · exact absurd (as1.len.symm.trans as2.len) h
      · exact dql_same ih h as1 as2 r r
    case tup.tup l m =>
      obtain ⟨a, us, rfl, g1, as1⟩ := at_tup.mp a1
      obtain ⟨a', ws, rfl, g2, as2⟩ := at_tup.mp a2
      obtain rfl := relRef r1 r2
      obtain ⟨its, r, e1, z⟩ := I.tuple (ex_t e g1)
      obtain ⟨its2, r', e2, z2⟩ := I.tuple (ex_t e g2)
      have hi : its = its2 := by
        obtain ⟨o, ho1, _, k1, hd1⟩ := e1
        obtain ⟨o', ho2, _, k2, hd2⟩ := e2
        rw [ho1] at ho2
        obtain rfl := Option.some.inj ho2
        rw [hd1] at hd2
        injection hd2 with hd2
        simpa using hd2
      subst hi
      obtain ⟨b', h1, rfl⟩ := h
      rw [dql_same ih h1 as1 as2 r r', show l.length = m.length by rw [← as1.len, ← as2.len, r.length, r'.length]]
      simp
end
end
end
end SR
set_option maxRecDepth 100000
set_option maxHeartbeats 4000000
namespace SR
open PySem PySem.Spec PyProof.Rows L2 Evl
open PySem.SeqAt
section
variable {ω : Type} {X : Cx} {O : OI ω} {oq : ω → ω → Bool → Prop} {n m : Nat}
/-- d == e by the machine's own ==, b -/
def RcD (X : Cx) (O : OI ω) (n : Nat) (d e : D ω) (b : Bool) : Prop :=
  ∀ (A : Around) (pins : List (Addr × Obj)) (s : Shared) (σ : L2.St) (G H : Hp) (x y : V) (u v : Value), Sub X n A → Inv X pins σ H s → RelV x u → RelV y v → Ex G H → At X.K O G d x → At X.K O G e y →
    wpAny (model X.prog X.w) A (richCompare .Eq u v) (fun r s' => r = .bool b ∧ ∃ H', Inv X pins σ H' s' ∧ Ex H H') X.xe s
def EqD (X : Cx) (O : OI ω) (n : Nat) (d e : D ω) (b : Bool) : Prop :=
  ∀ (A : Around) (pins : List (Addr × Obj)) (s : Shared) (σ : L2.St) (G H : Hp) (x y : V) (u v : Value), Sub X n A → Inv X pins σ H s → RelV x u → RelV y v → Ex G H → At X.K O G d x → At X.K O G e y →
    wpAny (model X.prog X.w) A (eqBool u v) (fun r s' => r = b ∧ ∃ H', Inv X pins σ H' s' ∧ Ex H H') X.xe s
def isRef : D ω → Bool | .lst _ => true | .tup _ => true | .dic _ => true | .obj _ => true | _ => false
theorem ref_of {H : Hp} {d : D ω} {v : V} (h : isRef d = true) (a : At X.K O H d v) : ∃ p, v = .ref p := by
  cases d with
  | lst l => obtain ⟨p, _, e, _⟩ := at_lst.mp a; exact ⟨p, e⟩
  | tup l => obtain ⟨p, _, e, _⟩ := at_tup.mp a; exact ⟨p, e⟩
  | dic l => obtain ⟨p, e, _⟩ := at_dic.mp a; exact ⟨p, e⟩
  | obj l => obtain ⟨p, e, _⟩ := at_obj.mp a; exact ⟨p, e⟩
  | _ => cases h
theorem rc_eq {d e : D ω} {b : Bool} (hs : OSame O oq) {k : Nat} (hq : DQ oq k d e b) (hd : isRef d = true) (he : isRef e = true) (h : RcD X O n d e b) : EqD X O n d e b := by
  intro A pins s σ G H x y u v sb I rx ry eg a1 a2
  by_cases huv : u = v
  · subst huv
    rw [dq_same hs I eg k d e b x y u hq a1 a2 rx ry]
    exact SeqAt.EqAt.same (A := A) (s := s) u X.prog X.w X.xe _ ⟨rfl, H, I, Ex.refl _⟩
  · obtain ⟨p, rfl⟩ := ref_of hd a1
    obtain ⟨q, rfl⟩ := ref_of he a2
    cases rx
    cases ry
    exact GQ.eqBool_refG (fun z => huv (by rw [z])) (wpAny_mono (h A pins s σ G H (.ref p) (.ref q) _ _ sb I rfl rfl eg a1 a2) (fun r s' z => ⟨b, z.1, rfl, z.2⟩) fun _ _ x => x)
theorem EqD.mono {d e : D ω} {b : Bool} (h : EqD X O n d e b) (hn : n ≤ m) : EqD X O m d e b := fun A pins s σ G H x y u v sb => h A pins s σ G H x y u v (sb.mono hn)
theorem RcD.mono {d e : D ω} {b : Bool} (h : RcD X O n d e b) (hn : n ≤ m) : RcD X O m d e b := fun A pins s σ G H x y u v sb => h A pins s σ G H x y u v (sb.mono hn)
theorem eqD_int {i j : Int} : EqD X O n (.int i) (.int j) (decide (i = j)) := by
  intro A pins s σ G H x y u v sb I rx ry eg a1 a2
  rw [at_int.mp a1] at rx
  rw [at_int.mp a2] at ry
  have q := eqAt_V (A := A) (s := s) rx ry rfl rfl
  have e : eqV (.int i) (.int j) = decide (i = j) := by
    show (i == j) = decide (i = j)
    by_cases h : i = j <;> simp [h]
  rw [e] at q
  exact q X.prog X.w X.xe _ ⟨rfl, H, I, Ex.refl _⟩
theorem valAt_kvI {m : List (Int × Int)} {o : Int} : valV (kvI m) (Sum.inl o) = (getI m o).map V.int := valV_kvI
theorem hitsI {A : Around} {s : Shared} {ls : List (Int × Int)} {vb : List (Key × Value)} (rb : KV (kvI ls) vb) : ∀ {ks : List (Int × Int)} {va : List (Key × Value)}, KV (kvI ks) va → PySem.W.KeqHitsP X.prog X.w A s vb va (ks.all fun q => getI ls q.1 == some q.2)
  | [], va, h => by
    cases h
    exact .nil
  | q :: r, va, h => by
    cases h with
    | cons h1 h2 =>
      rename_i key2 va2
      obtain ⟨key, v⟩ := key2
      obtain ⟨hk, hv⟩ := h1
      have hk' : Sum.inl q.1 = key := hk
      subst hk'
      have ih := hitsI (A := A) (s := s) rb (ks := r) h2
      have hval := rb.val (Sum.inl q.1)
      rw [valAt_kvI] at hval
      show PySem.W.KeqHitsP X.prog X.w A s vb ((Sum.inl q.1, v) :: va2) ((getI ls q.1 == some q.2) && r.all fun q => getI ls q.1 == some q.2)
      cases hg : getI ls q.1 with
      | none =>
        rw [hg] at hval
        have : valueAt vb (Sum.inl q.1) = none := by
          cases hw : valueAt vb (Sum.inl q.1) with
          | none => rfl
          | some y => rw [hw] at hval; exact False.elim hval
        exact .miss this
      | some c =>
        rw [hg] at hval
        obtain ⟨y, hy, ry⟩ := RelO.some_of hval
        have e := (eqAt_V (A := A) (s := s) (y := .int q.2) (x := .int c) hv ry rfl rfl).eqP (prog := X.prog) (w := X.w)
        have e2 : eqV (.int q.2) (.int c) = (some c == some q.2) := by
          show (q.2 == c) = (some c == some q.2)
          by_cases z : q.2 = c
          · rw [z]; simp
          · have z2 : ¬ c = q.2 := fun h => z h.symm
            show (q.2 == c) = (c == q.2)
            rw [beq_eq_false_iff_ne.mpr z, beq_eq_false_iff_ne.mpr z2]
        rw [e2] at e
        exact .hit hy e ih
theorem rcD_dic {m1 m2 : List (Int × Int)} : RcD X O n (.dic m1) (.dic m2) (dicEq m1 m2) := by
  intro A pins s σ G H x y u v sb I rx ry eg a1 a2
  obtain ⟨a, rfl, g1⟩ := at_dic.mp a1
  obtain ⟨b, rfl, g2⟩ := at_dic.mp a2
  cases rx
  cases ry
  obtain ⟨_, ya, va, ra, da⟩ := (show ObjOk X.prog X.w H s.heap a (.dK _) from I.hok a _ (eg _ _ g1))
  obtain ⟨_, yb, vb, rb, db⟩ := (show ObjOk X.prog X.w H s.heap b (.dK _) from I.hok b _ (eg _ _ g2))
  refine PySem.W.rcP_dicts (knd := mixKind X.prog X.w) (r := m1.all fun q => getI m2 q.1 == some q.2) ya yb da db sb.room.units0 (fun _ => hitsI rb ra) _ _ ?_
  refine ⟨?_, H, I, Ex.refl _⟩
  have l1 : va.length = m1.length := by rw [← ra.length]; unfold kvI; simp
  have l2 : vb.length = m2.length := by rw [← rb.length]; unfold kvI; simp
  rw [l1, l2]
  rfl
/-- what the loop over the items keeps -/
def LpI (X : Cx) (pins : List (Addr × Obj)) (σ : L2.St) (H : Hp) (s' : Shared) : Prop := ∃ H', Inv X pins σ H' s' ∧ Ex H H'
theorem turnD {A : Around} (sb : Sub X (n + 1) A) {pins : List (Addr × Obj)} {σ : L2.St} {G H : Hp} {l k : List (D ω)} {xs ys : List V} {its its2 : List Value} (eg : Ex G H) (a1 : AtL X.K O G l xs) (a2 : AtL X.K O G k ys) {c : Nat → Bool}
    (h : ∀ i d e, l[i]? = some d → k[i]? = some e → EqD X O n d e (c i)) (r : Vals xs its) (r2 : Vals ys its2)
    (i : Nat) (h1 : i < its.toArray.size) (h2 : i < its2.toArray.size) (s' : Shared) (lp : LpI X pins σ H s') :
    wpAny (model X.prog X.w) A.in1 (eqBool its.toArray[i] its2.toArray[i]) (fun r s2 => r = c i ∧ LpI X pins σ H s2) X.xe s' := by
  obtain ⟨H1, I1, e1⟩ := lp
  have g1 : its[i]? = some its.toArray[i] := by
    have h1' : i < its.length := by simpa using h1
    rw [List.getElem?_eq_getElem h1'] <;> simp
  have g2 : its2[i]? = some its2.toArray[i] := by
    have h2' : i < its2.length := by simpa using h2
    rw [List.getElem?_eq_getElem h2'] <;> simp
  have k1 : i < xs.length := by rw [r.length]; simpa using h1
  have k2 : i < ys.length := by rw [r2.length]; simpa using h2
  obtain ⟨u, hu, ru⟩ := r.get (List.getElem?_eq_getElem k1)
  obtain ⟨v, hv, rv⟩ := r2.get (List.getElem?_eq_getElem k2)
  rw [g1] at hu
  rw [g2] at hv
  obtain ⟨d, hd, ad⟩ := a1.get (List.getElem?_eq_getElem k1)
  obtain ⟨e, he, ae⟩ := a2.get (List.getElem?_eq_getElem k2)
  rw [Option.some.inj hu, Option.some.inj hv]
  refine wpAny_mono (h i d e hd he A.in1 pins s' σ G H1 _ _ u v sb.in1 I1 ru rv (eg.trans e1) ad ae) (fun r s2 q => ?_) fun _ _ x => x
  obtain ⟨hr, H2, I2, e2⟩ := q
  exact ⟨hr, H2, I2, e1.trans e2⟩
theorem rcD_lst {l k : List (D ω)} {b : Bool} {c : Nat → Bool} (hl : l.length = k.length) (h : ∀ i d e, l[i]? = some d → k[i]? = some e → EqD X O n d e (c i)) (hf : ∀ i, i < l.length → c i = false → b = false) (ht : (∀ i, i < l.length → c i = true) → b = true) : RcD X O (n + 1) (.lst l) (.lst k) b := by
  intro A pins s σ G H x y u v sb I rx ry eg a1 a2
  obtain ⟨p, xs, rfl, ha, as1⟩ := at_lst.mp a1
  obtain ⟨q, ys, rfl, hb, as2⟩ := at_lst.mp a2
  cases rx
  cases ry
  refine rc_listB (N := l.length) (c := c) (t := b) sb.room.units0 (fun s' => LpI X pins σ H s') hf ht (fun i s' z => ?_) (fun s' z => ⟨rfl, z⟩) ⟨H, I, Ex.refl _⟩
  obtain ⟨H1, I1, e1⟩ := id z
  obtain ⟨z1, its, k1, r, f1⟩ := I1.hok p _ (e1 _ _ (eg _ _ ha))
  obtain ⟨z2, its2, k2, r2, f2⟩ := I1.hok q _ (e1 _ _ (eg _ _ hb))
  refine ⟨its.toArray, its2.toArray, k1, k2, f1, f2, by rw [List.size_toArray, ← r.length, as1.len], by rw [List.size_toArray, ← r2.length, as2.len, hl], fun h1 h2 => ?_⟩
  exact turnD sb eg as1 as2 h r r2 i h1 h2 s' z
theorem rcD_lstN {l k : List (D ω)} (hl : l.length ≠ k.length) : RcD X O (n + 1) (.lst l) (.lst k) false := by
  intro A pins s σ G H x y u v sb I rx ry eg a1 a2
  obtain ⟨p, xs, rfl, ha, as1⟩ := at_lst.mp a1
  obtain ⟨q, ys, rfl, hb, as2⟩ := at_lst.mp a2
  cases rx
  cases ry
  obtain ⟨us, r1, p1, _⟩ := I.list (sq_of (K := X.K) (eg _ _ ha))
  obtain ⟨ws, r2, p2, _⟩ := I.list (sq_of (K := X.K) (eg _ _ hb))
  refine SeqAt.RcAt.lists_lengths p1.isList p2.isList ?_ sb.room.units0 X.prog X.w X.xe _ ⟨rfl, H, I, Ex.refl _⟩
  rw [List.size_toArray, List.size_toArray, ← r1.length, ← r2.length, as1.len, as2.len]
  simpa using hl
theorem rcD_tup {l k : List (D ω)} {b : Bool} {c : Nat → Bool} (h : ∀ i d e, l[i]? = some d → k[i]? = some e → EqD X O n d e (c i)) (hf : ∀ i, i < min l.length k.length → c i = false → b = false) (ht : (∀ i, i < min l.length k.length → c i = true) → b = (l.length == k.length)) : RcD X O (n + 1) (.tup l) (.tup k) b := by
  intro A pins s σ G H x y u v sb I rx ry eg a1 a2
  obtain ⟨p, xs, rfl, ha, as1⟩ := at_tup.mp a1
  obtain ⟨q, ys, rfl, hb, as2⟩ := at_tup.mp a2
  cases rx
  cases ry
  obtain ⟨its, r, e1, z1⟩ := I.tuple (ex_t eg ha)
  obtain ⟨its2, r2, e2, z2⟩ := I.tuple (ex_t eg hb)
  have s1 : its.toArray.size = l.length := by rw [List.size_toArray, ← r.length, as1.len]
  have s2 : its2.toArray.size = k.length := by rw [List.size_toArray, ← r2.length, as2.len]
  exact rc_tupB (c := c) (t := b) sb.room.units0 (fun s' => LpI X pins σ H s') (by rw [s1, s2]; exact hf) (by rw [s1, s2]; exact ht) e1 e2 (fun i h1 h2 s' z => turnD sb eg as1 as2 h r r2 i h1 h2 s' z) (fun s' z => ⟨rfl, z⟩) ⟨H, I, Ex.refl _⟩
/-- data: k below its nesting -/
theorem eqD_all (hs : OSame O oq) (ho : ∀ w u b, oq w u b → RcD X O m (.obj w) (.obj u) b) : ∀ (k : Nat) (d e : D ω) (b : Bool), DQ oq k d e b → EqD X O (m + k) d e b ∧ (isRef d = true → RcD X O (m + k) d e b) := by
  intro k
  have flat : ∀ (k : Nat) (d e : D ω) (b : Bool), DQ oq k d e b → (match d with | .lst _ => False | .tup _ => False | _ => True) → EqD X O (m + k) d e b ∧ (isRef d = true → RcD X O (m + k) d e b) := by
    intro k d e b h hd
    cases d <;> cases e <;> first | exact False.elim hd | (cases k <;> exact False.elim h) | skip
    case int.int i j =>
      have hb : b = decide (i = j) := by cases k <;> exact h
      subst hb
      exact ⟨eqD_int, fun z => nomatch z⟩
    case dic.dic m1 m2 =>
      have hb : b = dicEq m1 m2 := by cases k <;> exact h.2
      subst hb
      exact ⟨rc_eq hs h rfl rfl rcD_dic, fun _ => rcD_dic⟩
    case obj.obj w u =>
      have hb : oq w u b := by cases k <;> exact h
      have r := (ho w u b hb).mono (Nat.le_add_right m k)
      exact ⟨rc_eq hs h rfl rfl r, fun _ => r⟩
  induction k with
  | zero =>
    intro d e b h
    refine flat 0 d e b h ?_
    cases d <;> first | trivial | (cases e <;> exact False.elim h)
  | succ k ih =>
    intro d e b h
    cases d
    case lst l =>
      cases e <;> first | exact False.elim h | skip
      case lst l2 =>
        have r : RcD X O (m + k + 1) (.lst l) (.lst l2) b := by
          rcases h with ⟨h1, rfl⟩ | ⟨h1, h2⟩
          · exact rcD_lstN h1
          · obtain ⟨c, c1, c2, c3⟩ := dql_get h2
            have hm : min l.length l2.length = l.length := by omega
            rw [hm] at c2 c3
            exact rcD_lst h1 (fun i d e hd he => (ih d e (c i) (c1 i d e hd he)).1) c2 c3
        exact ⟨rc_eq hs h rfl rfl r, fun _ => r⟩
    case tup l =>
      cases e <;> first | exact False.elim h | skip
      case tup l2 =>
        have r : RcD X O (m + k + 1) (.tup l) (.tup l2) b := by
          obtain ⟨b', h2, rfl⟩ := h
          obtain ⟨c, c1, c2, c3⟩ := dql_get h2
          exact rcD_tup (fun i d e hd he => (ih d e (c i) (c1 i d e hd he)).1) (fun i hi hc => by rw [c2 i hi hc]; rfl) fun hc => by rw [c3 hc]; rfl
        exact ⟨rc_eq hs h rfl rfl r, fun _ => r⟩
    all_goals exact flat (k + 1) _ e b h True.intro
end
end SR
set_option maxRecDepth 100000
set_option maxHeartbeats 4000000
namespace SR
open PySem PySem.Spec PyProof.Rows L2 Evl
/-! ### == of plain data -/
mutual
def toP {ω : Type} : D ω → PyData
  | .non => .none | .bl b => .bool b | .int i => .int i | .str x => .str x
  | .lst l => .list (toPL l) | .tup l => .tuple (toPL l) | .dic _ => .none | .obj _ => .none
def toPL {ω : Type} : List (D ω) → List PyData
  | [] => []
  | d :: l => toP d :: toPL l
end
section
variable {ω : Type} {K : PySem.W.Frag} {O : OI ω} {H : Hp}
mutual
theorem dp_of : ∀ {d : D ω} {v : V}, noObj d = true → At K O H d v → Dp K H v (toP d)
  | .non, v, _, h => by rw [at_non.mp h]; exact .non
  | .bl b, v, _, h => by rw [at_bl.mp h]; exact .bl b
  | .int i, v, _, h => by rw [at_int.mp h]; exact .int i
  | .str x, v, _, h => by rw [at_str.mp h]; exact .str x
  | .lst l, v, n, h => by
    obtain ⟨a, vs, rfl, hs, as⟩ := at_lst.mp h
    exact .lst (sq_of hs) (dpl_of (by simpa only [noObj] using n) as)
  | .tup l, v, n, h => by
    obtain ⟨a, vs, rfl, hs, as⟩ := at_tup.mp h
    exact .tup hs (dpl_of (by simpa only [noObj] using n) as)
  | .dic m, v, n, h => by simp only [noObj] at n; cases n
  | .obj w, v, n, h => by simp only [noObj] at n; cases n
theorem dpl_of : ∀ {l : List (D ω)} {vs : List V}, noObjL l = true → AtL K O H l vs → DpAll K H vs (toPL l)
  | [], vs, _, h => by rw [atL_nil.mp h]; exact .nil
  | d :: l, vs, n, h => by
    obtain ⟨v, r, rfl, h1, h2⟩ := atL_cons.mp h
    simp only [noObjL, Bool.and_eq_true] at n
    exact .cons (dp_of n.1 h1) (dpl_of n.2 h2)
end
end
theorem ev_eqD {ω : Type} {K : PySem.W.Frag} {O : OI ω} {G : Hp} {ta tb : TE} {σ : L2.St} {d e : D ω} {b : Bool} (h1 : EvD K O ta σ G d) (h2 : EvD K O tb σ G e) (n1 : noObj d = true) (n2 : noObj e = true) (s1 : SeqAt.shaped (toP d) = true) (s2 : SeqAt.shaped (toP e) = true) (hb : PyData.eqv (toP d) (toP e) = b) :
    Ev (tOp (rEqD K) ta tb) σ G (.bl b) := fun H1 e1 Q q =>
  h1 H1 e1 _ fun v G2 H2 l a => h2 H2 (e1.trans l.h) _ fun u G3 H3 l3 a3 => ⟨toP d, toP e, dp_of n1 ((a.mono l.e).mono l3.h), dp_of n2 (a3.mono l3.e), s1, s2, by rw [hb]; exact q H3 (l.h.trans l3.h)⟩
theorem ev_neD {ω : Type} {K : PySem.W.Frag} {O : OI ω} {G : Hp} {ta tb : TE} {σ : L2.St} {d e : D ω} {b : Bool} (h1 : EvD K O ta σ G d) (h2 : EvD K O tb σ G e) (n1 : noObj d = true) (n2 : noObj e = true) (s1 : SeqAt.shaped (toP d) = true) (s2 : SeqAt.shaped (toP e) = true) (hb : PyData.eqv (toP d) (toP e) = b) :
    Ev (tOp (rNeD K) ta tb) σ G (.bl (!b)) := fun H1 e1 Q q =>
  h1 H1 e1 _ fun v G2 H2 l a => h2 H2 (e1.trans l.h) _ fun u G3 H3 l3 a3 => ⟨toP d, toP e, dp_of n1 ((a.mono l.e).mono l3.h), dp_of n2 (a3.mono l3.e), s1, s2, by rw [hb]; exact q H3 (l.h.trans l3.h)⟩
/-! ### lists of pairs of ints -/
theorem noObj_pairs {ω : Type} : ∀ {ps : List (Int × Int)}, noObjL (ω := ω) (ps.map pairD) = true
  | [] => rfl
  | q :: r => by
    show (noObj (pairD q : D ω) && noObjL (r.map pairD)) = true
    rw [noObj_pairs]
    rfl
theorem lay_pairs {ω : Type} : ∀ {ps : List (Int × Int)}, PyData.canLayAll0 (toPL (ω := ω) (ps.map pairD)) = true ∧ PyData.depthAll (toPL (ω := ω) (ps.map pairD)) ≤ 1
  | [] => ⟨rfl, Nat.zero_le _⟩
  | q :: r => by
    have ih := lay_pairs (ω := ω) (ps := r)
    refine ⟨?_, ?_⟩
    · show (PyData.canLay0 (toP (pairD q : D ω)) && PyData.canLayAll0 (toPL (r.map pairD))) = true
      rw [ih.1]
      rfl
    · show max (PyData.depth (toP (pairD q : D ω))) (PyData.depthAll (toPL (r.map pairD))) ≤ 1
      have h1 : PyData.depth (toP (pairD q : D ω)) = 1 := rfl
      rw [h1]
      have := ih.2
      omega
theorem shaped_tup {ω : Type} {ps : List (Int × Int)} : SeqAt.shaped (toP (D.tup (ω := ω) (ps.map pairD))) = true := by
  have h := lay_pairs (ω := ω) (ps := ps)
  show (PyData.canLayAll0 (toPL (ps.map pairD)) && decide (PyData.depthAll (toPL (ω := ω) (ps.map pairD)) + 1 ≤ 64)) = true
  rw [h.1, decide_eq_true (by have := h.2; omega)]
  rfl
theorem shaped_lst {ω : Type} {ps : List (Int × Int)} : SeqAt.shaped (toP (D.lst (ω := ω) (ps.map pairD))) = true := by
  have h := lay_pairs (ω := ω) (ps := ps)
  show (PyData.canLayAll0 (toPL (ps.map pairD)) && decide (PyData.depthAll (toPL (ω := ω) (ps.map pairD)) + 1 ≤ 64)) = true
  rw [h.1, decide_eq_true (by have := h.2; omega)]
  rfl
theorem eqv_pairs {ω : Type} : ∀ {ps qs : List (Int × Int)}, PyData.eqvAll (toPL (ω := ω) (ps.map pairD)) (toPL (ω := ω) (qs.map pairD)) = decide (ps = qs)
  | [], [] => rfl
  | [], q :: s => rfl
  | p :: r, [] => rfl
  | p :: r, q :: s => by
    have ih := eqv_pairs (ω := ω) (ps := r) (qs := s)
    show (PyData.eqv (toP (pairD p : D ω)) (toP (pairD q : D ω)) && PyData.eqvAll (toPL (r.map pairD)) (toPL (s.map pairD))) = decide (p :: r = q :: s)
    rw [ih]
    have h1 : PyData.eqv (toP (pairD p : D ω)) (toP (pairD q : D ω)) = decide (p = q) := by
      show ((p.1 == q.1) && ((p.2 == q.2) && true)) = decide (p = q)
      obtain ⟨a, b⟩ := p
      obtain ⟨c, d⟩ := q
      by_cases h : a = c <;> by_cases h' : b = d <;> simp [h, h']
    rw [h1]
    by_cases h : p = q <;> by_cases h' : r = s <;> simp [h, h']
/-! ### list(t), bool(t), tests of a tuple -/
section
variable {ω : Type} {K : PySem.W.Frag} {O : OI ω} {G : Hp} {te : TE} {σ : L2.St} {l : List (D ω)}
abbrev rListOf (K : PySem.W.Frag) : List V → Hp → VK → Prop := fun xs H Q => ∃ p ys, xs = [V.ref p] ∧ (SqL K H p ys ∨ SqT K H p ys) ∧ ∀ l, H l = none → Q (.ref l) (upd H l (.lst ys))
theorem ed_listT (h : EvD K O te σ G (.tup l)) : EvD K O (tCB (rListOf K) (tCons te tNil)) σ G (.lst l) := fun H1 e Q k =>
  h H1 e _ fun v G2 H2 le a => by
    obtain ⟨p, vs, rfl, hs, as⟩ := at_tup.mp a
    exact ⟨p, vs, rfl, Or.inr (ex_t le.e hs), fun q hq => k _ (upd G2 q (.lst vs)) _ (le.trans (Le.new le.e hq)) (at_lst.mpr ⟨q, vs, rfl, upd_same, as.mono (Ex.new (none_of_ex le.e hq))⟩)⟩
theorem ed_listL (h : EvD K O te σ G (.lst l)) : EvD K O (tCB (rListOf K) (tCons te tNil)) σ G (.lst l) := fun H1 e Q k =>
  h H1 e _ fun v G2 H2 le a => by
    obtain ⟨p, vs, rfl, hs, as⟩ := at_lst.mp a
    exact ⟨p, vs, rfl, Or.inl (sq_of (le.e _ _ hs)), fun q hq => k _ (upd G2 q (.lst vs)) _ (le.trans (Le.new le.e hq)) (at_lst.mpr ⟨q, vs, rfl, upd_same, as.mono (Ex.new (none_of_ex le.e hq))⟩)⟩
theorem et_truT (h : EvD K O te σ G (.tup l)) : EvT (tTruK K te) σ G (!l.isEmpty) := fun H1 e Q q =>
  h H1 e _ fun v G2 H2 le a => by
    obtain ⟨p, vs, rfl, hs, as⟩ := at_tup.mp a
    refine ⟨!l.isEmpty, Or.inr (Or.inl ⟨vs, ex_t le.e hs, ?_⟩), q H2 le.h⟩
    have h1 := as.len
    cases vs <;> cases l <;> first | rfl | simp at h1
theorem et_truL (h : EvD K O te σ G (.lst l)) : EvT (tTruK K te) σ G (!l.isEmpty) := fun H1 e Q q =>
  h H1 e _ fun v G2 H2 le a => by
    obtain ⟨p, vs, rfl, hs, as⟩ := at_lst.mp a
    refine ⟨!l.isEmpty, Or.inl ⟨vs, sq_of (le.e _ _ hs), ?_⟩, q H2 le.h⟩
    have h1 := as.len
    cases vs <;> cases l <;> first | rfl | simp at h1
end
section
variable {X : Cx}
def rBoolT (K : PySem.W.Frag) : List V → Hp → VK → Prop := fun xs H Q => ∃ (a : Addr) (zs : List V), xs = [.ref a] ∧ SqT K H a zs ∧ Q (.bl (!zs.isEmpty)) H
theorem call_boolT (K : PySem.W.Frag) (hK : X.K = K := by rfl) : CallR X (.type "bool") (rBoolT K) := by
  subst hK
  intro pins s σ H xs us Q I r h
  obtain ⟨a, zs, rfl, hq, q⟩ := h
  obtain rfl := Vals.ref1 r
  obtain ⟨its, rv, pl, hz⟩ := I.tuple hq
  have hl := line63
  have hlen := rv.length
  refine bool_of (truthy_tuple pl (by simp only [List.size_toArray]; omega) ?_)
  exact ⟨.bl (!zs.isEmpty), H, I.tok _, by rw [isEmpty_of rv]; rfl, q⟩
end
theorem ev_boolT {ω : Type} {K : PySem.W.Frag} {O : OI ω} {G : Hp} {te : TE} {σ : L2.St} {l : List (D ω)} (h : EvD K O te σ G (.tup l)) : Ev (tCB (rBoolT K) (tCons te tNil)) σ G (.bl (!l.isEmpty)) := fun H1 e Q q =>
  h H1 e _ fun v G2 H2 le a => by
    obtain ⟨p, vs, rfl, hs, as⟩ := at_tup.mp a
    refine ⟨p, vs, rfl, ex_t le.e hs, ?_⟩
    have h1 := as.len
    have e2 : (!vs.isEmpty) = !l.isEmpty := by cases vs <;> cases l <;> first | rfl | simp at h1
    rw [e2]
    exact q H2 le.h
end SR
set_option maxRecDepth 100000
set_option maxHeartbeats 4000000
namespace SR
open PySem PySem.Spec PyProof.Rows L2 Evl
section
variable {K : PySem.W.Frag} {C : Addr} {G H : Hp} {te ta tb ti : TE} {σ : L2.St} {w : FilS} {t : TA}
/-- f.m(..), m no field -/
theorem ed_meth {R : List (D FilS) → D FilS → Prop} {m : Str} {ds : List (D FilS)} {d : D FilS} {E : XK} (ho : EvD K (FilO K C) te σ G (.obj w)) (ha : EvDA K (FilO K C) t σ G ds) (r : R (.obj w :: ds) d)
    (h1 : (m == "prime") = false := by decide +kernel) (h2 : (m == "pairs") = false := by decide +kernel) (h3 : (m == "coefficients") = false := by decide +kernel) : EvD K (FilO K C) (tMeth C m (SpD K (FilO K C) R) [] E te t) σ G d := fun H1 e Q k =>
  ho H1 e _ fun v G2 H2 l a => by
    obtain ⟨x, rfl, dx, tp, o, ts, kd, g1, g2, g3, g4, g5⟩ := at_obj.mp a
    refine ⟨x, dx, _, rfl, l.e _ _ g1, lkN h1 h2 h3, ha H2 ((e.trans l.h)) _ fun vs G3 H3 l3 as => ?_⟩
    have e2 : Ex G2 H3 := l.e.trans l3.h
    have e3 : Ex G2 (hun G3 G2) := hun_r l3.e e2
    refine ⟨hun G3 G2, .obj w :: ds, d, hun_ex l3.e e2, ?_, r, fun u G4 H4 l4 b => k u G4 H4 ⟨(l.h.trans l3.h).trans l4.h, (l.g.trans e3).trans l4.g, l4.e, fun y hg hh => ?_, fun y ps q => hun_t l3.t l.t y ps (l4.t y ps q)⟩ b⟩
    · rw [List.append_nil]
      exact atL_cons.mpr ⟨_, _, rfl, a.mono e3, as.mono hun_l⟩
    · have n2 := l.f y hg hh
      have h2' : H2 y ≠ none := fun z => hh (fresh_back l.h z)
      have h3' : H3 y ≠ none := fun z => h2' (fresh_back l3.h z)
      refine l4.f y ?_ h3'
      unfold hun
      rw [l3.f y hg h2']
      exact n2
theorem ed_lastT {ω : Type} {O : OI ω} {ds : List (D ω)} {c : D ω} (h : EvD K O te σ G (.tup ds)) (hi : Ev ti σ G (.int (-1))) (hc : ds[ds.length - 1]? = some c) : EvD K O (tOp (rIxT K) te ti) σ G c := fun H1 e Q k =>
  h H1 e _ fun v G2 H2 l a => hi H2 (e.trans l.h) _ fun H3 e3 => by
    obtain ⟨p, vs, rfl, hs, as⟩ := at_tup.mp a
    obtain ⟨x, hx, ax⟩ := as.get' hc
    have hl := as.len
    have hpos : 0 < ds.length := by
      have := (List.getElem?_eq_some_iff.mp hc).1
      omega
    refine ⟨p, vs, _, x, rfl, rfl, ex_t (l.e.trans e3) hs, ?_, k x G2 H3 (l.trans (Le.heap l.e e3)) ax⟩
    unfold atI ixN
    rw [if_neg (by decide), if_pos (by omega)]
    rw [← hl] at hx
    have e5 : ((-1 : Int) + (vs.length : Int)).toNat = vs.length - 1 := by omega
    show vs[((-1 : Int) + (vs.length : Int)).toNat]? = some x
    rw [e5]
    exact hx
theorem ev_neg1 : Ev (tUn (rU fun i => .int (-i)) (tC (.int 1))) σ G (.int (-1)) := ev_un ev_c ru_neg
end
section
variable {ω : Type} {K : PySem.W.Frag} {O : OI ω} {G : Hp} {td ty tx : TE} {σ : L2.St} {m : List (Int × Int)} {o z c : Int}
theorem ev_dget2D (h : EvD K O td σ G (.dic m)) (hy : Ev ty σ G (.int o)) (hx : Ev tx σ G (.int z)) : Ev (tDGet2 td ty tx) σ G (.int ((getI m o).getD z)) := fun H1 e Q q =>
  h H1 e _ fun v G2 H2 l a => by
    obtain ⟨d, rfl, hd⟩ := at_dic.mp a
    refine ⟨d, rfl, Or.inl ⟨kvI m, Or.inl (l.e _ _ hd)⟩, hy H2 (e.trans l.h) _ fun H3 e3 => hx H3 ((e.trans l.h).trans e3) _ fun H4 e4 => ⟨_, DGet.k (k := Sum.inl o) ((l.e.trans e3).trans e4 d _ hd), ?_⟩⟩
    rw [valV_kvI]
    have q' := q H4 ((l.h.trans e3).trans e4)
    cases hg : getI m o with
    | none => rw [hg] at q'; exact q'
    | some x => rw [hg] at q'; exact q'
theorem ev_dgetD (h : EvD K O td σ G (.dic m)) (hy : Ev ty σ G (.int o)) (hc : getI m o = some c) : Ev (tDGet td ty) σ G (.int c) := fun H1 e Q q =>
  h H1 e _ fun v G2 H2 l a => by
    obtain ⟨d, rfl, hd⟩ := at_dic.mp a
    refine hy H2 (e.trans l.h) _ fun H3 e3 => ⟨d, .int c, rfl, ?_, q H3 (l.h.trans e3)⟩
    have h1 := DGet.k (k := Sum.inl o) ((l.e.trans e3) d _ hd)
    rw [valV_kvI, hc] at h1
    exact h1
end
end SR
set_option maxRecDepth 100000
set_option maxHeartbeats 4000000
/-! The source of drawn numbers: a list that the law's helpers change; what stands beside it stays. -/
namespace SR
open PySem PySem.Spec PyProof.Rows L2 Evl
/-- from (G, H) to (G', H'), s and q may change -/
structure LeX (s q : Addr) (G H G' H' : Hp) : Prop where
  h : ∀ a o, a ≠ s → a ≠ q → H a = some o → H' a = some o
  g : Ex G G'
  e : Ex G' H'
  f : ∀ a, G a = none → H a ≠ none → G' a = none
  k : ∀ a, H a ≠ none → H' a ≠ none
  t : ∀ a ps, G' a = some (.tbl ps) → G a = some (.tbl ps)
section
variable {s q : Addr} {G H G1 H1 G2 H2 : Hp}
theorem Le.x (l : Le G H G1 H1) : LeX s q G H G1 H1 := ⟨fun a o _ _ e => l.h a o e, l.g, l.e, l.f, fun a h z => h (fresh_back l.h z), l.t⟩
theorem LeX.trans (a : LeX s q G H G1 H1) (b : LeX s q G1 H1 G2 H2) : LeX s q G H G2 H2 := ⟨fun x o n m e => b.h x o n m (a.h x o n m e), a.g.trans b.g, b.e, fun x hg hh => b.f x (a.f x hg hh) (a.k x hh), fun x h => b.k x (a.k x h), fun x ps h => a.t x ps (b.t x ps h)⟩
theorem LeX.refl (e : Ex G H) : LeX s q G H G H := (Le.refl e).x
theorem LeX.mutS (l : LeX s q G H G1 H1) {o : HO} (hg : G1 s = none) : LeX s q G H G1 (upd H1 s o) where
  h := fun a u n m e => by rw [upd_ne n]; exact l.h a u n m e
  g := l.g
  e := fun a u e => by rw [upd_ne (ne_of_none e hg)]; exact l.e a u e
  f := l.f
  t := l.t
  k := fun a h => by
    by_cases z : a = s
    · subst z; rw [upd_same]; exact fun z => nomatch z
    · rw [upd_ne z]; exact l.k a h
theorem LeX.mutQ (l : LeX s q G H G1 H1) {o : HO} (hg : G1 q = none) : LeX s q G H G1 (upd H1 q o) where
  h := fun a u n m e => by rw [upd_ne m]; exact l.h a u n m e
  g := l.g
  e := fun a u e => by rw [upd_ne (ne_of_none e hg)]; exact l.e a u e
  f := l.f
  t := l.t
  k := fun a h => by
    by_cases z : a = q
    · subst z; rw [upd_same]; exact fun z => nomatch z
    · rw [upd_ne z]; exact l.k a h
theorem LeX.gnone (l : LeX s q G H G1 H1) {p : Addr} (hg : G p = none) (hh : H p ≠ none) : G1 p = none := l.f p hg hh
theorem LeX.back (l : LeX s q G H G1 H1) {p : Addr} (h : H1 p = none) : H p = none := by
  cases e : H p with
  | none => rfl
  | some o => exact absurd h (l.k p (by rw [e]; exact fun z => nomatch z))
/-- an object filled since -/
theorem LeX.mut (l : LeX s q G H G1 H1) {p : Addr} {o : HO} (h : H p = none) (hg : G1 p = none) : LeX s q G H G1 (upd H1 p o) where
  h := fun a u n m e => by rw [upd_ne (ne_of_none e h)]; exact l.h a u n m e
  g := l.g
  e := fun a u e => by rw [upd_ne (ne_of_none e hg)]; exact l.e a u e
  f := l.f
  t := l.t
  k := fun a h' => by
    by_cases z : a = p
    · subst z; rw [upd_same]; exact fun z => nomatch z
    · rw [upd_ne z]; exact l.k a h'
theorem LeX.fix (e : Ex G H) (l : LeX s q G H G1 H1) {p : Addr} {o : HO} (h : H p = none) (h1 : H1 p = some o) (ht : NoTb o := by intro _ z; cases z) : LeX s q G H (upd G1 p o) H1 where
  h := l.h
  g := fun a u r => by
    by_cases z : a = p
    · subst z; rw [none_of_ex e h] at r; cases r
    · rw [upd_ne z]; exact l.g a u r
  e := fun a u r => by
    by_cases z : a = p
    · subst z; rw [upd_same] at r; rw [h1]; exact r
    · rw [upd_ne z] at r; exact l.e a u r
  f := fun a hg hh => by
    by_cases z : a = p
    · subst z; exact absurd h hh
    · rw [upd_ne z]; exact l.f a hg hh
  k := l.k
  t := fun a ps r => by
    by_cases z : a = p
    · subst z; rw [upd_same] at r; exact absurd (Option.some.inj r) (ht ps)
    · rw [upd_ne z] at r; exact l.t a ps r
end
/-- what the source holds: its cells at q, a rest, at most n draws done, a seed -/
structure Spr (H : Hp) (s q : Addr) (n : Nat) : Prop where
  ex : ∃ (cells : List Int) (r m sd : Int), H s = some (.lst [.ref q, .int r, .int m, .int sd]) ∧ H q = some (.lst (cells.map V.int)) ∧ cells.length ≤ 63 ∧ 0 ≤ m ∧ m ≤ n ∧ 0 ≤ sd ∧ sd < 2147483647
theorem Spr.keep {s q : Addr} {n k : Nat} {H H' : Hp} (p : Spr H s q n) (h : ∀ a o, H a = some o → H' a = some o) (hn : n ≤ k) : Spr H' s q k := by
  obtain ⟨cells, r, m, sd, h1, h2, h3, h4, h5, h6, h7⟩ := p.ex
  exact ⟨cells, r, m, sd, h _ _ h1, h _ _ h2, h3, h4, by omega, h6, h7⟩
theorem Spr.sne {s q : Addr} {n : Nat} {H : Hp} (p : Spr H s q n) : H s ≠ none := by
  obtain ⟨cells, r, m, sd, h1, _⟩ := p.ex
  rw [h1]; exact fun z => nomatch z
theorem Spr.qne {s q : Addr} {n : Nat} {H : Hp} (p : Spr H s q n) : H q ≠ none := by
  obtain ⟨cells, r, m, sd, h1, h2, _⟩ := p.ex
  rw [h2]; exact fun z => nomatch z
theorem Spr.ne {s q : Addr} {n : Nat} {H : Hp} (p : Spr H s q n) : s ≠ q := by
  obtain ⟨cells, r, m, sd, h1, h2, _⟩ := p.ex
  intro z
  subst z
  rw [h1] at h2
  have h3 := Option.some.inj h2
  injection h3 with h3
  cases cells with
  | nil => cases h3
  | cons c cs => simp at h3
/-- a def over the source and data: R tells which data may come -/
def SpX (K : PySem.W.Frag) {ω : Type} (O : OI ω) (add : Nat) (Pre : List (D ω) → Prop) (R : List (D ω) → D ω → Prop) : Sp := fun vs H Q _ => ∃ G s q n ds ws, vs = .ref s :: ws ∧ Ex G H ∧ G s = none ∧ G q = none ∧ Spr H s q n ∧ n + add ≤ 1000000 ∧ AtL K O G ds ws ∧ Pre ds ∧
  ∀ d v G2 H2, R ds d → LeX s q G H G2 H2 → Spr H2 s q (n + add) → At K O G2 d v → Q v H2
end SR
set_option maxRecDepth 100000
set_option maxHeartbeats 4000000
namespace SR
open PySem PySem.Spec PyProof.Rows L2 Evl
theorem walk_zipT {K : PySem.W.Frag} {a b : Addr} {xs ys : List V} {n : Nat} (hn : n = min xs.length ys.length) : Walk (RZ.ItzT K a b) n (fun H => SqT K H a xs ∧ SqT K H b ys) (YPair (fun i => xs[i]?) (fun i => ys[i]?)) := by
  subst hn
  refine ⟨fun i _ hi q => ?_, fun _ q => ⟨xs, ys, q.1, q.2, by omega⟩, fun i H v H' _ q y => ?_⟩
  · have h1 : i < xs.length := by omega
    have h2 : i < ys.length := by omega
    exact ⟨xs, ys, xs[i], ys[i], q.1, q.2, by simp [h1], by simp [h2]⟩
  · obtain ⟨T, x, z, h1, h2, h3, h4, h5⟩ := y
    exact ⟨T, x, z, h1, h2, h3, h4 xs q.1, h5 ys q.2⟩
section
variable {ω : Type} {K : PySem.W.Frag} {O : OI ω} {G : Hp} {te : TE} {σ : L2.St} {d : D ω} {T : ω → Value}
theorem src_zipT {ta : TA} {ds es : List (D ω)} (h : EvDA K O ta σ G [.tup ds, .tup es]) : Src K O (RZ.iZipA K ta) σ G (zipD ds es) := fun H1 e R k =>
  h H1 e _ fun vs G2 H2 l as => by
    obtain ⟨v, r, rfl, a, n⟩ := atL_cons.mp as
    obtain ⟨v', r', rfl, a', n'⟩ := atL_cons.mp n
    obtain rfl := atL_nil.mp n'
    obtain ⟨p, ws, rfl, hs, aw⟩ := at_tup.mp a
    obtain ⟨q, us, rfl, hs', aw'⟩ := at_tup.mp a'
    refine ⟨p, q, ws, us, rfl, Or.inr ⟨ex_t l.e hs, ex_t l.e hs', ?_⟩⟩
    have hl : ws.length = ds.length := aw.len
    have hl' : us.length = es.length := aw'.len
    have hn : (zipD ds es).length = min ws.length us.length := by simp [zipD, hl, hl']
    refine k (RZ.ItzT K p q) _ _ G2 H2 l (walk_zipT hn) (fun H x => ⟨ex_t x hs, ex_t x hs'⟩) fun i Gi Hi x Hi' eg eh hi y => ?_
    obtain ⟨T, x1, x2, rfl, hT, rfl, h1, h2⟩ := y
    obtain ⟨d, hd, ad⟩ := aw.get h1
    obtain ⟨d', hd', ad'⟩ := aw'.get h2
    have e3 : (zipD ds es)[i]? = some (.tup [d, d']) := by
      simp [zipD, List.zip, List.getElem?_zipWith, hd, hd']
    refine ⟨_, upd Gi T (.tup [x1, x2]), e3, Le.new eh hT, at_tup.mpr ⟨T, _, rfl, st_of upd_same, atL_cons.mpr ⟨_, _, rfl, (ad.mono eg).mono (Ex.new (none_of_ex eh hT)), ?_⟩⟩⟩
    exact AtL.one ((ad'.mono eg).mono (Ex.new (none_of_ex eh hT)))
theorem kit_ils (h : OT K O T) (d : D ω) : PySem.W.kitAny K (tyD T d) [.type "int", .type "list", .type "tuple"] = some (dIntB d || dSeq d) := by
  refine kitAny_cons (kit_int h d) (fun hb => ?_) (fun hb => by rw [hb]; rfl)
  rw [hb, Bool.false_or]
  exact kit_seq h d
theorem isi_ils (OK : OT K O T) (h : EvD K O te σ G d) : Ev (tCB (rIsiT K) (tCons te (tCons (tTup (tCons (tC (.ty "int")) (tCons (tC (.ty "list")) (tCons (tC (.ty "tuple")) tNil)))) tNil))) σ G (.bl (dIntB d || dSeq d)) := fun H1 e Q q =>
  h H1 e _ fun v G2 H2 l a => ⟨by show 3 ≤ sizeLine; decide, fun p hp => ⟨v, p, _, _, [.type "int", .type "list", .type "tuple"], _, rfl, upd_same, .cons (.ty _) (.cons (.ty _) (.cons (.ty _) .nil)), ty_of OK.ty ((a.mono l.e).mono (Ex.new hp)), kit_ils OK d, q _ (l.h.trans (Ex.new hp))⟩⟩
/-- all([..]) of truth values that are all True -/
theorem AtL.bools {bs : List Bool} {vs : List V} (h : AtL K O G (bs.map D.bl) vs) : vs = bs.map V.bl := by
  induction bs generalizing vs with
  | nil => exact atL_nil.mp h
  | cons b r ih =>
    obtain ⟨v, w, rfl, h1, h2⟩ := atL_cons.mp h
    rw [at_bl.mp h1, ih h2]
    rfl
theorem ev_allD {bs : List Bool} (h : EvD K O te σ G (.lst (bs.map D.bl))) : Ev (tCB (rAll K) (tCons te tNil)) σ G (.bl (bs.all id)) := fun H1 e Q q =>
  h H1 e _ fun v G2 H2 l a => by
    obtain ⟨p, vs, rfl, hs, as⟩ := at_lst.mp a
    obtain rfl := as.bools
    exact ⟨p, bs, rfl, sq_of (l.e _ _ hs), q H2 l.h⟩
theorem ev_anyD {bs : List Bool} (h : EvD K O te σ G (.lst (bs.map D.bl))) : Ev (tCB (rAny K) (tCons te tNil)) σ G (.bl (bs.any id)) := fun H1 e Q q =>
  h H1 e _ fun v G2 H2 l a => by
    obtain ⟨p, vs, rfl, hs, as⟩ := at_lst.mp a
    obtain rfl := as.bools
    exact ⟨p, bs, rfl, sq_of (l.e _ _ hs), q H2 l.h⟩
/-- within a lock -/
theorem ev_dgetF {td ty : TE} {a : Addr} {od : Obj} {m : List (Int × Int)} {o c : Int} (hd : Ev td σ G (.ref a)) (hm : G a = some (.frz od (.dK (kvI m)))) (hy : Ev ty σ G (.int o)) (hc : getI m o = some c) : Ev (tDGet td ty) σ G (.int c) := fun H1 e Q q =>
  hd H1 e _ fun H2 e2 => hy H2 (e.trans e2) _ fun H3 e3 => ⟨a, .int c, rfl, Or.inl ⟨kvI m, Sum.inl o, Or.inr ⟨od, (e.trans e2).trans e3 a _ hm⟩, rfl, by rw [valV_kvI, hc]; rfl⟩, q H3 (e2.trans e3)⟩
end
/-! ### depth -/
mutual
def dep {ω : Type} : D ω → Nat
  | .lst l => depL l + 1
  | .tup l => depL l + 1
  | _ => 0
def depL {ω : Type} : List (D ω) → Nat
  | [] => 0
  | d :: l => max (dep d) (depL l)
end
theorem depL_le {ω : Type} : ∀ {l : List (D ω)} {d : D ω}, d ∈ l → dep d ≤ depL l
  | c :: l, d, h => by
    show dep d ≤ max (dep c) (depL l)
    rcases List.mem_cons.mp h with rfl | h
    · exact Nat.le_max_left _ _
    · exact Nat.le_trans (depL_le h) (Nat.le_max_right _ _)
theorem noObjL_mem {ω : Type} : ∀ {l : List (D ω)} {d : D ω}, noObjL l = true → d ∈ l → noObj d = true
  | c :: l, d, n, h => by
    simp only [noObjL, Bool.and_eq_true] at n
    rcases List.mem_cons.mp h with rfl | h
    · exact n.1
    · exact noObjL_mem n.2 h
end SR
set_option maxRecDepth 100000
set_option maxHeartbeats 4000000
namespace SR
open PySem PySem.Spec PyProof.Rows L2 Evl
section
variable (P : Program) (w : World) (K : PySem.W.Frag) (mg : Str → Option Value) (base : Heap)
/-- a special method of the class at C -/
structure DunOk (C : Addr) (k : Nat) (m : Str) (ps : List Str) (sp : Sp) : Prop where
  ex : ∃ g fd, PySem.W.findIn K (.ref C) m = some (some (.ref g)) ∧ PySem.W.isFn K (.ref g) = true ∧ PySem.W.fnIn K g = true ∧ Binds K fd ps [] ∧ FnOk P w K mg base CX0 k g fd ps sp
end
section
variable {X : Cx} {k : Nat} {C : Addr} {ps : List Str} {sp : Sp} {a b : Expr} {ta tb : TE} {pos : Pos}
theorem call_boolD (h : DunOk X.prog X.w X.K X.mg X.base C k "__bool__" ps sp) (hr : Room (k + 2) X.A) : CallR X (.type "bool") (rBoolOwn C sp E0) := by
  obtain ⟨g, fd, hs, hf, _, hb, F⟩ := h.ex
  exact call_boolOwn hs hf F hr hb pass0
theorem tru_D (h : DunOk X.prog X.w X.K X.mg X.base C k "__bool__" ps sp) (hr : Room k X.A) : TruR X (rTruOwn C sp E0) := by
  obtain ⟨g, fd, hs, hf, _, hb, F⟩ := h.ex
  exact tru_own hs hf F hr hb pass0
theorem pe_ixD (h : DunOk X.prog X.w X.K X.mg X.base C k "__getitem__" ps sp) (hr : Room (k + 1) X.A) (ha : PE X a ta) (hi : PE X b tb) (hsl : PlainIxO b) : PE X (.Subscript a b pos) (tOp (rIxOwn C sp E0) ta tb) := by
  obtain ⟨g, fd, hs, hf, hf2, hb, F⟩ := h.ex
  exact pe_ixOwn hs hf2 hf F hr hb pass0 ha hi hsl
theorem op_eqDun (K : PySem.W.Frag) (h : DunOk X.prog X.w X.K X.mg X.base C k "__eq__" ps sp) (hr : Room k X.A) (hK : X.K = K := by rfl) : OpR X (compareOp .Eq) (rEqOwn K C sp E0) := by
  subst hK
  obtain ⟨g, fd, hs, hf, _, hb, F⟩ := h.ex
  exact op_eqOwn hs hf F hr hb pass0
theorem op_neDun (K : PySem.W.Frag) (h : DunOk X.prog X.w X.K X.mg X.base C k "__eq__" ps sp) (hne : PySem.W.findIn X.K (.ref C) "__ne__" = some (some (.builtin "object.__ne__"))) (hm : PySem.W.mroIn X.K C (.type "object") = some true) (hr : Room (k + 1) X.A) (hK : X.K = K := by rfl) : OpR X (compareOp .NotEq) (rNeOwn K C sp E0) := by
  subst hK
  obtain ⟨g, fd, hs, hf, _, hb, F⟩ := h.ex
  exact op_neOwn hs hf hne hm F hr hb pass0
end
section
variable {K : PySem.W.Frag} {C : Addr} {G H : Hp} {te ta tb ti : TE} {σ : L2.St} {w : FilS} {R : List (D FilS) → D FilS → Prop}
theorem ev_boolF {b : Bool} (h : EvD K (FilO K C) te σ G (.obj w)) (r : R [.obj w] (.bl b)) : Ev (tCB (rBoolOwn C (SpD K (FilO K C) R) E0) (tCons te tNil)) σ G (.bl b) := fun H1 e Q q =>
  h H1 e _ fun v G2 H2 l a => by
    obtain ⟨x, rfl, dx, tp, o, ts, kd, h1, _⟩ := at_obj.mp a
    exact ⟨x, dx, _, rfl, l.e _ _ h1, G2, [.obj w], .bl b, l.e, AtL.one a, r, fun v G3 H3 l3 a3 => ⟨b, at_bl.mp a3, q H3 (l.h.trans l3.h)⟩⟩
theorem et_truF {b : Bool} (h : EvD K (FilO K C) te σ G (.obj w)) (r : R [.obj w] (.bl b)) : EvT (fun σ H Q => te σ H fun x H' => rTruOwn C (SpD K (FilO K C) R) E0 x H' Q) σ G b := fun H1 e Q q =>
  h H1 e _ fun v G2 H2 l a => by
    obtain ⟨x, rfl, dx, tp, o, ts, kd, h1, _⟩ := at_obj.mp a
    exact ⟨x, dx, _, rfl, l.e _ _ h1, G2, [.obj w], .bl b, l.e, AtL.one a, r, fun v G3 H3 l3 a3 => ⟨b, at_bl.mp a3, q H3 (l.h.trans l3.h)⟩⟩
theorem ed_getF {d : D FilS} {o : Int} (h : EvD K (FilO K C) te σ G (.obj w)) (hi : Ev ti σ G (.int o)) (r : R [.obj w, .int o] d) : EvD K (FilO K C) (tOp (rIxOwn C (SpD K (FilO K C) R) E0) te ti) σ G d := fun H1 e Q k =>
  h H1 e _ fun v G2 H2 l a => hi H2 (e.trans l.h) _ fun H3 e3 => by
    obtain ⟨x, rfl, dx, tp, oo, ts, kd, h1, h2⟩ := at_obj.mp a
    exact ⟨x, dx, _, rfl, e3 _ _ (l.e _ _ h1), G2, [.obj w, .int o], d, l.e.trans e3, atL_cons.mpr ⟨_, _, rfl, a, AtL.one (at_int.mpr rfl)⟩, r, fun v G4 H4 l4 a4 => k v G4 H4 ((l.trans (Le.heap l.e e3)).trans l4) a4⟩
/-- f == x -/
theorem ev_eqF {b : Bool} {d : D FilS} {T : FilS → Value} (hT : ∀ H a w, (FilO K C).at_ H a w → TyX K H (.ref a) (T w)) (hn : ∀ d : D FilS, PySem.W.notFirst K C (tyD T d) = true) (h : EvD K (FilO K C) ta σ G (.obj w)) (h2 : EvD K (FilO K C) tb σ G d) (r : R [.obj w, d] (.bl b)) : Ev (tOp (rEqOwn K C (SpD K (FilO K C) R) E0) ta tb) σ G (.bl b) := fun H1 e Q q =>
  h H1 e _ fun v G2 H2 l a => h2 H2 (e.trans l.h) _ fun u G3 H3 l3 a3 => by
    obtain ⟨x, rfl, dx, tp, o, ts, kd, h1, _⟩ := at_obj.mp a
    have e2 : Ex G2 H3 := l.e.trans l3.h
    exact ⟨x, dx, _, _, rfl, e2 _ _ h1, ty_of hT (a3.mono l3.e), hn d, hun G3 G2, [.obj w, d], .bl b, hun_ex l3.e e2, atL_cons.mpr ⟨_, _, rfl, a.mono (hun_r l3.e e2), AtL.one (a3.mono hun_l)⟩, r, fun v G4 H4 l4 a4 => ⟨b, at_bl.mp a4, q H4 ((l.h.trans l3.h).trans l4.h)⟩⟩
theorem ev_neF {b : Bool} {d : D FilS} {T : FilS → Value} (hT : ∀ H a w, (FilO K C).at_ H a w → TyX K H (.ref a) (T w)) (hn : ∀ d : D FilS, PySem.W.notFirst K C (tyD T d) = true) (h : EvD K (FilO K C) ta σ G (.obj w)) (h2 : EvD K (FilO K C) tb σ G d) (r : R [.obj w, d] (.bl b)) : Ev (tOp (rNeOwn K C (SpD K (FilO K C) R) E0) ta tb) σ G (.bl (!b)) := fun H1 e Q q =>
  h H1 e _ fun v G2 H2 l a => h2 H2 (e.trans l.h) _ fun u G3 H3 l3 a3 => by
    obtain ⟨x, rfl, dx, tp, o, ts, kd, h1, _⟩ := at_obj.mp a
    have e2 : Ex G2 H3 := l.e.trans l3.h
    exact ⟨x, dx, _, _, rfl, e2 _ _ h1, ty_of hT (a3.mono l3.e), hn d, hun G3 G2, [.obj w, d], .bl b, hun_ex l3.e e2, atL_cons.mpr ⟨_, _, rfl, a.mono (hun_r l3.e e2), AtL.one (a3.mono hun_l)⟩, r, fun v G4 H4 l4 a4 => ⟨b, at_bl.mp a4, q H4 ((l.h.trans l3.h).trans l4.h)⟩⟩
theorem ed_lastL {ω : Type} {O : OI ω} {ds : List (D ω)} {c : D ω} (h : EvD K O te σ G (.lst ds)) (hi : Ev ti σ G (.int (-1))) (hc : ds[ds.length - 1]? = some c) : EvD K O (tOp (rIxL K) te ti) σ G c := fun H1 e Q k =>
  h H1 e _ fun v G2 H2 l a => hi H2 (e.trans l.h) _ fun H3 e3 => by
    obtain ⟨p, vs, rfl, hs, as⟩ := at_lst.mp a
    obtain ⟨x, hx, ax⟩ := as.get' hc
    have hl := as.len
    have hpos : 0 < ds.length := by
      have := (List.getElem?_eq_some_iff.mp hc).1
      omega
    refine ⟨p, vs, _, x, rfl, rfl, sq_of ((l.e.trans e3) _ _ hs), ?_, k x G2 H3 (l.trans (Le.heap l.e e3)) ax⟩
    unfold atI ixN
    rw [if_neg (by decide), if_pos (by omega)]
    rw [← hl] at hx
    have e5 : ((-1 : Int) + (vs.length : Int)).toNat = vs.length - 1 := by omega
    show vs[((-1 : Int) + (vs.length : Int)).toNat]? = some x
    rw [e5]
    exact hx
/-- xs + ys -/
theorem ed_cat {ω : Type} {O : OI ω} {ds es : List (D ω)} (h1 : EvD K O ta σ G (.lst ds)) (h2 : EvD K O tb σ G (.lst es)) (hz : ds.length + es.length ≤ 100000) : EvD K O (tOp rCat ta tb) σ G (.lst (ds ++ es)) := fun H1 e Q k =>
  h1 H1 e _ fun v G2 H2 l a => h2 H2 (e.trans l.h) _ fun u G3 H3 l3 a3 => by
    obtain ⟨p, vs, rfl, hs, as⟩ := at_lst.mp a
    obtain ⟨q, us, rfl, hs3, as3⟩ := at_lst.mp a3
    have e2 : Ex G2 H3 := l.e.trans l3.h
    have lw : Le G H1 (hun G3 G2) H3 := ⟨l.h.trans l3.h, l.g.trans (hun_r l3.e e2), hun_ex l3.e e2, (fun y hg hh => by
      have n2 := l.f y hg hh
      have h2' : H2 y ≠ none := fun z => hh (fresh_back l.h z)
      have g0 : G y = none := hg
      unfold hun
      rw [l3.f y g0 h2']
      exact n2), hun_t l3.t l.t⟩
    refine ⟨p, q, vs, us, rfl, rfl, e2 _ _ hs, l3.e _ _ hs3, sz_of (by rw [as.len, as3.len]; exact hz), fun m hm => ?_⟩
    have ln := Le.new (o := .lst (vs ++ us)) lw.e hm
    refine k _ (upd (hun G3 G2) m (.lst (vs ++ us))) _ (lw.trans ln) (at_lst.mpr ⟨m, _, rfl, upd_same, ?_⟩)
    exact (((as.mono (hun_r l3.e e2)).app (as3.mono hun_l)).mono ln.g)
end
section
variable {ω : Type} {K : PySem.W.Frag} {O : OI ω} {G H : Hp} {ta : TA} {σ : L2.St} {De : Ends} {tz : TS} {i j : Nat}
theorem q_par {x y : V} (h : EvA ta σ G [x, y]) (e : Ex G H) (k : ∀ H2, Le G H G H2 → tz De ((σ.set i (some x)).set j (some y)) H2) : tSeq (tPar i j ta) tz De σ H := h H e _ fun H2 e2 => ⟨x, y, rfl, k H2 (Le.heap e e2)⟩
theorem q_parD {d1 d2 : D ω} (h : EvDA K O ta σ G [d1, d2]) (e : Ex G H) (k : ∀ x y G2 H2, Le G H G2 H2 → At K O G2 d1 x → At K O G2 d2 y → tz De ((σ.set i (some x)).set j (some y)) H2) : tSeq (tPar i j ta) tz De σ H := h H e _ fun vs G2 H2 l as => by
  obtain ⟨x, r, rfl, a1, n⟩ := atL_cons.mp as
  obtain ⟨y, r, rfl, a2, n⟩ := atL_cons.mp n
  obtain rfl := atL_nil.mp n
  exact ⟨x, y, rfl, k x y G2 H2 l a1 a2⟩
end
end SR
set_option maxRecDepth 100000
set_option maxHeartbeats 4000000
/-! len, iteration, == of own classes, over data. -/
namespace SR
open PySem PySem.Spec PyProof.Rows L2 Evl ItX
section
variable {X : Cx} {CX : CXT} {pins : List (Addr × Obj)} {σ : L2.St} {H : Hp} {s : Shared} {a C g : Addr} {fd : FuncData} {ps : List Str} {n k : Nat} {sp : Sp}
/-- len(x), an own __len__ -/
def rLenOwn (C : Addr) (sp : Sp) : List V → Hp → VK → Prop := fun xs H Q => ∃ a dx fs, xs = [.ref a] ∧ H a = some (.ins C dx fs) ∧ sp [.ref a] H (fun z H' => ∃ i : Int, z = .int i ∧ 0 ≤ i ∧ i < 2 ^ 63 ∧ Q (.int i) H') E0
theorem call_lenOwn (h : DunOk X.prog X.w X.K X.mg X.base C k "__len__" ps sp) (hr : Room (k + 1) X.A) : CallR X (.builtin "len") (rLenOwn C sp) := by
  obtain ⟨g, fd, hs, hf, _, hb, F⟩ := h.ex
  intro pins s σ H xs us Q I r h
  obtain ⟨a, dx, fs, rfl, ha, q⟩ := h
  obtain rfl := Vals.ref1 r
  obtain ⟨od, J⟩ := ins_inst I ha
  obtain ⟨m, hF⟩ := I.fr
  refine PySem.W.len_K hF I.ok.mod.kin J hs hf (wpAny_mono (run_fn1 (us := [.ref a]) (vs := [.ref a]) F hr hb pass0 I (.cons rfl .nil) q) (fun w s' z => ?_) fun _ _ x => x)
  obtain ⟨z', H', I', rz, i, rfl, h0, h1, qz⟩ := z
  obtain ⟨t, rfl⟩ := rz
  exact ⟨⟨h0, h1⟩, .int i, H', I'.tok _, ⟨_, rfl⟩, qz⟩
end
/-! ### a heap told to be longer -/
def pad (h : Heap) (n : Nat) : Heap := { h with objs := h.objs ++ Array.replicate (n - h.objs.size) ⟨.none, none, .freed, #[]⟩ }
theorem pad_get {h : Heap} {n : Nat} {b : Addr} : (pad h n).get? b = h.get? b := by
  unfold pad Heap.get?
  by_cases hb : b < h.objs.size
  · simp only [Array.getElem?_append_left hb]
  · have e1 : h.objs[b]? = none := Array.getElem?_eq_none (Nat.le_of_not_lt hb)
    simp only [Array.getElem?_append_right (Nat.le_of_not_lt hb), e1]
    by_cases hc : b - h.objs.size < n - h.objs.size
    · simp [Array.getElem?_replicate, hc]
    · simp [Array.getElem?_replicate, hc]
theorem pad_size {h : Heap} {n : Nat} (hn : h.objs.size ≤ n) : (pad h n).objs.size = n := by
  unfold pad
  simp only [Array.size_append, Array.size_replicate]
  omega
theorem pad_mod {K : PySem.W.Frag} {mg : Str → Option Value} {base : Heap} {n : Nat} (M : Mod K mg base) : Mod K mg (pad base n) := by
  have k : ∀ b o, base.get? b = some o → (pad base n).get? b = some o := fun b o e => by rw [pad_get]; exact e
  obtain ⟨mb, h1, h2⟩ := M.blt
  exact ⟨M.kin.keeps k, M.glob.keeps k, ⟨mb, h1.keeps k, h2⟩, M.nolimit.keeps k⟩
theorem pad_funs {h base : Heap} {n : Nat} : ∀ {l : List Env}, h.FunFrames base l → h.FunFrames (pad base n) l
  | [], _ => True.intro
  | env :: l, ⟨h1, ⟨L, o, e1, e2, e3, e4⟩, h3⟩ => ⟨h1, ⟨L, o, e1, by rw [pad_get]; exact e2, e3, e4⟩, pad_funs h3⟩
/-! ### iter of a tuple, as a value -/
def titObj (l : Addr) : Obj := { cls := .type "tuple_iterator", data := .fields #[.ref l, .int 0 0] }
def ItTO (l it : Addr) : HO := .ext fun h => h.get? it = some (titObj l)
theorem itTO_ok {P : Program} {w : World} {H : Hp} {h : Heap} {l it : Addr} (e : h.get? it = some (titObj l)) : ObjOk P w H h it (ItTO l it) := ⟨e, ⟨_, e⟩, fun h1 h2 q k => k _ q⟩
def rIterT (K : PySem.W.Frag) (n : Nat) : List V → Hp → VK → Prop := fun xs H Q => ∃ (l : Addr) (zs : List V), xs = [.ref l] ∧ SqT K H l zs ∧ ∀ it, H it = Option.none → n ≤ it → Q (.ref it) (upd H it (ItTO l it))
section
variable {X : Cx}
theorem call_iterT (K : PySem.W.Frag) (hK : X.K = K := by rfl) : CallR X (.builtin "iter") (rIterT K X.base.objs.size) := by
  subst hK
  intro pins s σ H xs us Q I r h
  obtain ⟨l, zs, rfl, hq, q⟩ := h
  obtain rfl := Vals.ref1 r
  obtain ⟨its, rv, pl, hz⟩ := I.tuple hq
  refine Calls.call_function_entry (by decide +kernel) (by decide +kernel) PySem.W.kdk_entry_iter (PySem.W.kdk_args_iter _) ?_
  unfold Builtin.«iter»
  refine wpAny_bind (m := someArgs "iter" 1 2 _) (wpAny_of_eq (a := [Value.ref l]) (by first | rfl | kernel_rfl!) ?_)
  show wpAny _ _ (pyIter (.ref l) >>= _) _ _ s
  refine wpAny_bind (wpAny_pyIter_tuple pl (wpAny_pure ⟨_, rfl, ?_⟩))
  exact ⟨.ref s.heap.objs.size, _, I.laid (t' := s.toks) (fun b u e => Heap.get?_push_of_some _ e) (Nat.le_refl _) (itTO_ok (Heap.get?_push_size _ rfl)), rfl, q _ (I.hok.fresh (Nat.le_refl _)) (Nat.le_trans I.ok.bsz I.sz)⟩
end
/-- __iter__ of the class at C, over any base -/
structure IterOk (P : Program) (w : World) (K : PySem.W.Frag) (mg : Str → Option Value) (C : Addr) (k : Nat) (sp : Nat → Sp) : Prop where
  ex : ∃ g fd, PySem.W.findIn K (.ref C) "__iter__" = some (some (.ref g)) ∧ PySem.W.isFn K (.ref g) = true ∧ Binds K fd ["self"] [] ∧ ∀ base, FnOk P w K mg base CX0 k g fd ["self"] (sp base.objs.size)
/-- it gives an iterator over the tuple of ds -/
def spIt (K : PySem.W.Frag) {ω : Type} (O : OI ω) (R : D ω → List (D ω) → Prop) (n : Nat) : Sp := fun vs H Q _ => ∃ G d ds v, vs = [v] ∧ Ex G H ∧ At K O G d v ∧ R d ds ∧ ∀ G2 H2 l it, Le G H G2 H2 → At K O G2 (.tup ds) (.ref l) → H2 it = Option.none → n ≤ it → Q (.ref it) (upd H2 it (ItTO l it))
def iOwn (K : PySem.W.Frag) (C : Addr) (sp : Nat → Sp) (n : Nat) (te : TE) : TI := fun σ H R => te σ H fun x H1 => ∃ a dx fs, x = .ref a ∧ H1 a = some (.ins C dx fs) ∧ sp n [x] H1 (fun z H2 => ∃ it l H3, z = .ref it ∧ H3 it = Option.none ∧ n ≤ it ∧ H2 = upd H3 it (ItTO l it) ∧ (∃ xs, SqT K H3 l xs) ∧ R (Itt K l) H3) E0
theorem titObj_iter {h : Heap} {l it : Addr} (e : h.get? it = some (titObj l)) : h.IsTupleIter it l 0 := ⟨_, e, rfl, rfl⟩
theorem drop_upd {H : Hp} {a : Addr} {o : HO} (h : H a = Option.none) : dropH (upd H a o) a = H := dropH_upd h
section
variable {X : Cx} {tg e : Expr} {te : TE} {C : Addr} {k : Nat} {sp : Nat → Sp}
theorem pi_own (h : IterOk X.prog X.w X.K X.mg C k sp) (hr : Room k X.A) (he : PE X e te) : PI X tg e (iOwn X.K C sp X.s_0.heap.objs.size te) := by
  obtain ⟨g, fd, hs, hf, hb, F⟩ := h.ex
  refine ⟨fun pins s σ H R I h => ?_⟩
  refine thn (he.run pins s σ H _ I h) fun v s1 ⟨x, H1, I1, r1, q1⟩ => ?_
  obtain ⟨a, dx, fs, rfl, ha, q⟩ := q1
  cases (show v = Value.ref a from r1)
  obtain ⟨od, J⟩ := ins_inst I1 ha
  obtain ⟨m, hF⟩ := I1.fr
  refine PySem.W.owit_iter hF I1.ok.mod.kin J hs hf ?_
  have FB := F (pad X.base X.s_0.heap.objs.size)
  rw [pad_size I1.ok.bsz] at FB
  have e0 : Env0 X.prog X.w X.K X.mg (pad X.base X.s_0.heap.objs.size) X.A X.stack s1 H1 := by
    have e := I1.env0
    exact ⟨e.frames, pad_mod e.mod, fun b o z => e.bs b o (by rw [pad_get] at z; exact z), by rw [pad_size I1.ok.bsz]; exact I1.sz, pad_funs e.funs, e.frf, e.hok, e.bare⟩
  have hb' := hb s1 [.ref a] I1.kIn rfl
  rw [List.append_nil] at hb'
  refine wpAny_call (codeAny_mono (FB.run X.A X.stack s1 H1 ⟨[.ref a], []⟩ [.ref a] [.ref a] _ E0 hr e0 hb' (.cons rfl .nil) q) fun r s' hq => ?_)
  cases r with
  | error e => exact (pass0 (X := X)) pins σ H1 s1 e s' I1 hq
  | ok fl =>
    cases fl with
    | next => exact False.elim hq
    | brk => exact False.elim hq
    | cont => exact False.elim hq
    | ret u =>
      obtain ⟨z, H2, I2, rz, it, l, H3, rfl, hn, hle, rfl, ⟨xs, hxs⟩, hR⟩ := I1.after hq
      cases (show u = Value.ref it from rz)
      have hi : (upd H3 it (ItTO l it)) it = some (ItTO l it) := upd_same
      have eo : s'.heap.get? it = some (titObj l) := (I2.hok it _ hi).1
      have st := titObj_iter eo
      unfold PySem.W.OwitIt
      refine wpAny_specialOf (name := Str.ofString "__next__") st.typeIs PySem.F.slot_tuple_iterator_next.lookup ?_
      have I3 := inv_drop I2 (show (upd H3 it (ItTO l it)) it = some (.ext fun h => h.get? it = some (titObj l)) from hi)
      rw [drop_upd hn] at I3
      refine ⟨it, [it], _, _, H3, rfl, I3, turn_tuple l it, st, fun b hb => ?_, hR⟩
      have e : b = it := by simpa using hb
      rw [e]
      have := inv_fp I2 hi hle
      rw [drop_upd hn] at this
      exact this
end
section
variable {ω : Type} {K : PySem.W.Frag} {O : OI ω} {G : Hp} {te : TE} {σ : L2.St} {C : Addr} {R : D ω → List (D ω) → Prop} {n : Nat} {w : ω} {ds : List (D ω)}
/-- instances at all -/
def InsC (O : OI ω) (T : ω → Addr) : Prop := ∀ H a w, O.at_ H a w → ∃ dx fs, H a = some (.ins (T w) dx fs)
theorem src_own {T : ω → Addr} (hi : InsC O T) (hT : T w = C) (h : EvD K O te σ G (.obj w)) (r : R (.obj w) ds) : Src K O (iOwn K C (spIt K O R) n te) σ G ds := fun H1 e S k =>
  h H1 e _ fun v G2 H2 l a => by
    obtain ⟨x, rfl, ha⟩ := at_obj.mp a
    obtain ⟨dx, fs, hx⟩ := hi _ _ _ ha
    rw [hT] at hx
    refine ⟨x, dx, fs, rfl, l.e _ _ hx, G2, .obj w, ds, .ref x, rfl, l.e, a, r, fun G3 H3 lp it l3 al hn hle => ?_⟩
    obtain ⟨q, us, hq, hs, as⟩ := at_tup.mp al
    obtain rfl := V.ref.inj hq
    have ht : Src K O (iTup K (tVar 0)) [some (.ref lp)] G3 ds := src_tup (ed_var rfl al)
    obtain ⟨y, hy, a', rfl', ⟨xs, hxs⟩, hR⟩ := ht H3 l3.e S fun J Gd Y G4 H4 l4 w hG yl => k J Gd Y G4 H4 ((l.trans l3).trans l4) w hG yl
    cases hy
    cases rfl'
    exact ⟨it, lp, H3, rfl, hn, hle, rfl, ⟨xs, hxs⟩, hR⟩
end
end SR
set_option maxRecDepth 100000
set_option maxHeartbeats 4000000
namespace SR
open PySem PySem.Spec PyProof.Rows L2 Evl
section
variable {ω : Type} {X : Cx} {O : OI ω} {C : Addr} {k n : Nat} {ps : List Str} {R : List (D ω) → D ω → Prop} {w u : ω} {b : Bool}
theorem rcD_obj {T : ω → Addr} (hi : InsC O T) (hw : T w = C) (hu : T u = C) (h : DunOk X.prog X.w X.K X.mg X.base C k "__eq__" ps (SpD X.K O R)) (r : R [.obj w, .obj u] (.bl b)) : RcD X O k (.obj w) (.obj u) b := by
  obtain ⟨g, fd, hs, hf, _, hb, F⟩ := h.ex
  intro A pins s σ G H x y v1 v2 sb I rx ry eg a1 a2
  obtain ⟨p, rfl, h1⟩ := at_obj.mp a1
  obtain ⟨q, rfl, h2⟩ := at_obj.mp a2
  cases rx
  cases ry
  obtain ⟨dx, fs, i1⟩ := hi _ _ _ h1
  obtain ⟨dy, gs, i2⟩ := hi _ _ _ h2
  rw [hw] at i1
  rw [hu] at i2
  obtain ⟨od, J⟩ := ins_inst I (eg _ _ i1)
  obtain ⟨od', J'⟩ := ins_inst I (eg _ _ i2)
  obtain ⟨m, hF⟩ := I.fr
  refine PySem.W.cmp_K (op := .Eq) (tb := .ref C) sb.room.units0 hF I.ok.mod.kin J J'.type (by simp [PySem.W.notFirst]) hs hf ?_
  have hsp : SpD X.K O R [.ref p, .ref q] H (fun v H' => v = .bl b ∧ Ex H H') E0 := ⟨G, [.obj w, .obj u], .bl b, eg, atL_cons.mpr ⟨_, _, rfl, a1, AtL.one a2⟩, r, fun v G2 H2 l av => ⟨at_bl.mp av, l.h⟩⟩
  have e0 : Env0 X.prog X.w X.K X.mg X.base A X.stack s H := by
    have e := I.env0
    exact ⟨by rw [sb.fr]; exact e.frames, e.mod, e.bs, e.bsz, e.funs, e.frf, e.hok, e.bare⟩
  have hl := F.len _ _ _ _ hsp
  have r2 : Vals [V.ref p, V.ref q] [Value.ref p, Value.ref q] := .cons rfl (.cons rfl .nil)
  refine wpAny_call (codeAny_mono (F.run A X.stack s H ⟨[.ref p, .ref q], []⟩ [.ref p, .ref q] [.ref p, .ref q] _ E0 sb.room e0 (by
    have := hb s [.ref p, .ref q] I.kIn (by simpa using hl)
    simpa using this) r2 hsp) fun r s' hq => ?_)
  cases r with
  | error e => exact (pass0 (X := X)) pins σ H s e s' I hq
  | ok fl =>
    cases fl with
    | next => exact False.elim hq
    | brk => exact False.elim hq
    | cont => exact False.elim hq
    | ret u =>
      obtain ⟨z, H2, I2, rz, hz, e2⟩ := I.after hq
      subst hz
      cases (show u = Value.bool b from rz)
      exact ⟨rfl, H2, I2, e2⟩
/-- d == e by data -/
def rEqQ (K : PySem.W.Frag) (O : OI ω) (P : D ω → D ω → Bool → Prop) : R2 := fun x y H Q => ∃ G d e b, Ex G H ∧ At K O G d x ∧ At K O G e y ∧ P d e b ∧ ∀ H', Ex H H' → Q (.bl b) H'
theorem op_eqQ {P : D ω → D ω → Bool → Prop} (h : ∀ d e b, P d e b → RcD X O n d e b) (hr : Room n X.A) : OpR X (compareOp .Eq) (rEqQ X.K O P) := by
  intro pins s σ H x y v u Q I rx ry hq
  obtain ⟨G, d, e, b, eg, a1, a2, p, q⟩ := hq
  show wpAny (model X.prog X.w) X.A (richCompare .Eq v u) (EP X pins σ Q) X.xe s
  refine wpAny_mono (h d e b p X.A pins s σ G H x y v u ⟨hr, rfl⟩ I rx ry eg a1 a2) (fun r s' z => ?_) fun _ _ x => x
  obtain ⟨rfl, H', I', e'⟩ := z
  exact ⟨.bl b, H', I', rfl, q H' e'⟩
/-- data without objects, or with objects that oq tells apart -/
def PDq (oq : ω → ω → Bool → Prop) (j : Nat) : D ω → D ω → Bool → Prop := fun d e b => DQ oq j d e b ∧ isRef d = true
theorem op_eqDq {oq : ω → ω → Bool → Prop} (hs : OSame O oq) (ho : ∀ w u b, oq w u b → RcD X O n (.obj w) (.obj u) b) (j : Nat) (hr : Room (n + j) X.A) : OpR X (compareOp .Eq) (rEqQ X.K O (PDq oq j)) :=
  op_eqQ (fun d e b h => (eqD_all hs ho j d e b h.1).2 h.2) hr
end
section
variable {ω : Type} {K : PySem.W.Frag} {O : OI ω} {G : Hp} {ta tb : TE} {σ : L2.St} {d e : D ω} {b : Bool} {P : D ω → D ω → Bool → Prop}
theorem ev_eqQ (h1 : EvD K O ta σ G d) (h2 : EvD K O tb σ G e) (p : P d e b) : Ev (tOp (rEqQ K O P) ta tb) σ G (.bl b) := fun H1 e1 Q q =>
  h1 H1 e1 _ fun v G2 H2 l a => h2 H2 (e1.trans l.h) _ fun u G3 H3 l3 a3 => by
    have e2 : Ex G2 H3 := l.e.trans l3.h
    exact ⟨hun G3 G2, d, e, b, hun_ex l3.e e2, a.mono (hun_r l3.e e2), a3.mono hun_l, p, fun H' eh => q H' ((l.h.trans l3.h).trans eh)⟩
end
/-- no objects -/
def noOq {ω : Type} : ω → ω → Bool → Prop := fun _ _ _ => False
theorem same_no {ω : Type} {O : OI ω} : OSame O noOq := fun _ _ _ _ _ _ _ h => h.elim
end SR
set_option maxRecDepth 100000
set_option maxHeartbeats 4000000
namespace SR
open PySem PySem.Spec PyProof.Rows L2 Evl
/-- the sum of the second ones at a place -/
def totl : List (Int × Int) → Int → Int
  | [], _ => 0
  | q :: r, o => (if q.1 = o then q.2 else 0) + totl r o
theorem totl_append {a b : List (Int × Int)} {o : Int} : totl (a ++ b) o = totl a o + totl b o := by
  induction a with
  | nil => show totl b o = 0 + totl b o; omega
  | cons q r ih =>
    show (if q.1 = o then q.2 else 0) + totl (r ++ b) o = (if q.1 = o then q.2 else 0) + totl r o + totl b o
    rw [ih]
    omega
theorem totl_one {q : Int × Int} {o : Int} : totl [q] o = if q.1 = o then q.2 else 0 := by
  show (if q.1 = o then q.2 else 0) + 0 = _
  omega
theorem totl_rev {a : List (Int × Int)} {o : Int} : totl a.reverse o = totl a o := by
  induction a with
  | nil => rfl
  | cons q r ih =>
    rw [List.reverse_cons, totl_append, ih, totl_one]
    show totl r o + _ = (if q.1 = o then q.2 else 0) + totl r o
    omega
theorem coef_fold {p : Int} (hp : 0 < p) {o : Int} : ∀ {rows m : List (Int × Int)}, 0 ≤ (getI m o).getD 0 → (getI m o).getD 0 < p → (getI (rows.foldl (step p) m) o).getD 0 = ((getI m o).getD 0 + totl rows o) % p
  | [], m, h0, h1 => by
    show (getI m o).getD 0 = ((getI m o).getD 0 + 0) % p
    rw [Int.add_zero, Int.emod_eq_of_lt h0 h1]
  | q :: r, m, h0, h1 => by
    have hs : (getI (step p m q) o).getD 0 = if o = q.1 then ((getI m q.1).getD 0 + q.2) % p else (getI m o).getD 0 := by
      unfold step
      rw [getI_put, Int.fmod_eq_emod_of_nonneg _ (by omega)]
      split <;> rfl
    have h0' : 0 ≤ (getI (step p m q) o).getD 0 := by
      rw [hs]
      split
      · exact Int.emod_nonneg _ (by omega)
      · exact h0
    have h1' : (getI (step p m q) o).getD 0 < p := by
      rw [hs]
      split
      · exact Int.emod_lt_of_pos _ hp
      · exact h1
    have ih := coef_fold hp (o := o) (rows := r) (m := step p m q) h0' h1'
    show (getI (r.foldl (step p) (step p m q)) o).getD 0 = ((getI m o).getD 0 + ((if q.1 = o then q.2 else 0) + totl r o)) % p
    rw [ih, hs]
    by_cases h : o = q.1
    · rw [if_pos h, if_pos h.symm, h, Int.emod_add_emod]
      congr 1
      omega
    · rw [if_neg h, if_neg (fun z => h z.symm)]
      congr 1
      omega
theorem coef_is {p : Int} (hp : 0 < p) {rows : List (Int × Int)} {o : Int} : coef p rows o = totl rows o % p := by
  unfold coef sums
  rw [coef_fold hp (m := []) (by exact Int.le_refl 0) (by exact hp)]
  show (0 + totl rows o) % p = _
  rw [Int.zero_add]
theorem coef_ne {p : Int} {rows : List (Int × Int)} {o : Int} (h : coef p rows o ≠ 0) : o ∈ (sums p rows).map (·.1) := by
  refine getI_some.mp ?_
  unfold coef at h
  cases e : getI (sums p rows) o with
  | none => rw [e] at h; exact absurd rfl h
  | some c => rfl
theorem keys_nd {p : Int} {rows : List (Int × Int)} : (srt ((sums p rows).map (·.1))).Nodup := srt_perm.nodup_iff.mpr (sums_nd (rows := rows) (m := []) List.nodup_nil)
/-- the coefficients tell the list -/
theorem coll_ext {p p' : Int} {a b : List (Int × Int)} (h : ∀ o, coef p a o = coef p' b o) : coll p a = coll p' b := by
  have e1 : ((srt ((sums p a).map (·.1))).filter fun o => coef p a o != 0) = (srt ((sums p' b).map (·.1))).filter fun o => coef p' b o != 0 := by
    refine List.Perm.eq_of_pairwise (le := fun x y : Int => x ≤ y) (fun x y _ _ h1 h2 => Int.le_antisymm h1 h2) (srt_pair.filter _) (srt_pair.filter _) ((List.perm_ext_iff_of_nodup (keys_nd.filter _) (keys_nd.filter _)).mpr fun o => ?_)
    rw [List.mem_filter, List.mem_filter]
    constructor
    · rintro ⟨h1, h2⟩
      have h3 : coef p' b o ≠ 0 := by rw [← h o]; simpa using h2
      exact ⟨srt_perm.mem_iff.mpr (coef_ne h3), by simpa using h3⟩
    · rintro ⟨h1, h2⟩
      have h3 : coef p a o ≠ 0 := by rw [h o]; simpa using h2
      exact ⟨srt_perm.mem_iff.mpr (coef_ne h3), by simpa using h3⟩
  unfold coll
  rw [e1]
  exact List.map_congr_left fun o _ => by rw [h o]
theorem coll_tot {p : Int} (hp : 0 < p) {a b : List (Int × Int)} (h : ∀ o, ∃ z, totl a o = totl b o + p * z) : coll p a = coll p b := coll_ext fun o => by
  obtain ⟨z, hz⟩ := h o
  rw [coef_is hp, coef_is hp, hz, Int.add_mul_emod_self_left]
/-- a look-up of the list is the coefficient -/
theorem getI_coll {p : Int} {a : List (Int × Int)} {o : Int} : (getI (coll p a) o).getD 0 = coef p a o := by
  have key : ∀ l : List Int, (getI (l.map fun o => (o, coef p a o)) o) = if o ∈ l then some (coef p a o) else none := by
    intro l
    induction l with
    | nil => rfl
    | cons x r ih =>
      unfold getI at ih ⊢
      rw [List.map_cons, List.find?_cons]
      by_cases h : x = o
      · subst h
        rw [decide_eq_true rfl, if_pos (List.mem_cons_self ..)]
        rfl
      · rw [decide_eq_false h]
        rw [ih]
        by_cases h2 : o ∈ r
        · rw [if_pos h2, if_pos (List.mem_cons_of_mem _ h2)]
        · rw [if_neg h2, if_neg (by intro z; rcases List.mem_cons.mp z with z | z; exact h z.symm; exact h2 z)]
  unfold coll
  rw [key]
  by_cases h : coef p a o = 0
  · rw [h]
    split <;> rfl
  · rw [if_pos (List.mem_filter.mpr ⟨srt_perm.mem_iff.mpr (coef_ne h), by simpa using h⟩)]
    rfl
/-- one more at a place: another list -/
theorem coll_more {p : Int} (hp : 1 < p) {a : List (Int × Int)} {o : Int} : coll p (a ++ [(o, 1)]) ≠ coll p a := by
  intro h
  have h1 := getI_coll (p := p) (a := a ++ [(o, 1)]) (o := o)
  rw [h, getI_coll, coef_is (by omega), coef_is (by omega), totl_append, totl_one] at h1
  simp only [if_true] at h1
  have h2 := Int.emod_nonneg (totl a o) (show p ≠ 0 by omega)
  have h3 := Int.emod_lt_of_pos (totl a o) (show 0 < p by omega)
  have h4 := Int.emod_add_mul_ediv (totl a o) p
  have h5 := Int.emod_add_mul_ediv (totl a o + 1) p
  rw [← h1] at h5
  have h6 : p * ((totl a o + 1) / p) - p * (totl a o / p) = 1 := by omega
  rw [← Int.mul_sub] at h6
  have h7 : p ∣ 1 := ⟨_, h6.symm⟩
  have h8 := Int.le_of_dvd (by decide) h7
  omega
section
variable {ω : Type} {K : PySem.W.Frag} {O : OI ω} {G : Hp} {te : TE} {σ : L2.St} {l : List (D ω)}
theorem AtL.rev : ∀ {l : List (D ω)} {vs : List V}, AtL K O G l vs → AtL K O G l.reverse vs.reverse
  | [], vs, h => by rw [atL_nil.mp h]; exact atL_nil.mpr rfl
  | d :: l, vs, h => by
    obtain ⟨v, r, rfl, h1, h2⟩ := atL_cons.mp h
    rw [List.reverse_cons, List.reverse_cons]
    exact (AtL.rev h2).app (AtL.one h1)
theorem AtL.take : ∀ {n : Nat} {l : List (D ω)} {vs : List V}, AtL K O G l vs → AtL K O G (l.take n) (vs.take n)
  | 0, l, vs, h => atL_nil.mpr rfl
  | n + 1, [], vs, h => by rw [atL_nil.mp h]; exact atL_nil.mpr rfl
  | n + 1, d :: l, vs, h => by
    obtain ⟨v, r, rfl, h1, h2⟩ := atL_cons.mp h
    exact atL_cons.mpr ⟨v, _, rfl, h1, AtL.take (n := n) h2⟩
theorem AtL.drop : ∀ {n : Nat} {l : List (D ω)} {vs : List V}, AtL K O G l vs → AtL K O G (l.drop n) (vs.drop n)
  | 0, l, vs, h => h
  | n + 1, [], vs, h => by rw [atL_nil.mp h]; exact atL_nil.mpr rfl
  | n + 1, d :: l, vs, h => by
    obtain ⟨v, r, rfl, h1, h2⟩ := atL_cons.mp h
    exact AtL.drop (n := n) h2
theorem ed_rev (h : EvD K O te σ G (.lst l)) : EvD K O (tRevL K te) σ G (.lst l.reverse) := fun H1 e Q k =>
  h H1 e _ fun v G2 H2 le a => by
    obtain ⟨p, vs, rfl, hs, as⟩ := at_lst.mp a
    exact ⟨p, vs, rfl, sq_of (le.e _ _ hs), fun q hq => k _ (upd G2 q (.lst vs.reverse)) _ (le.trans (Le.new le.e hq)) (at_lst.mpr ⟨q, _, rfl, upd_same, as.rev.mono (Ex.new (none_of_ex le.e hq))⟩)⟩
end
end SR
set_option maxRecDepth 100000
set_option maxHeartbeats 4000000
/-! Own operators: with an int, in place. -/
namespace SR
open PySem PySem.Spec PyProof.Rows L2
section
variable {prog : Program} {w : World} {M : Model} {A : Around} {E : Value → Shared → Prop} {s : Shared} {K : PySem.W.Frag} {x C L f : Addr} {h₀ : Heap} {m : Str → Option Value} {ox : Obj} {od : Option Obj} {nm : String}
open PySem.W
/-- the class has no in-place method of that name -/
theorem fillsI_none {h : Heap} {cd : ClassData} {add : Bool} (X : K.In h) (hc : clsIn K C = some cd) (hm : cd.mro = [.ref C, .type "object"]) (h1 : findIn K (.ref C) (dunderI nm) = some none) (h2 : findIn K (.type "object") (dunderI nm) = some none) : Looks M h (fillsInplaceSlot (.ref C) nm add) false := by
  intro A Q E s k q
  have Lm : Looks M h (mroOf (.ref C)) cd.mro := (looks_clsIn X hc).andThen (f := fun cd => pure cd.mro) .now
  have Lm' := Lm.keeps k
  obtain ⟨hh, g, d, tt, os⟩ := s
  have X' : K.In hh := X.keeps k
  have L1 : Looks M hh (typeLookup (.ref C) (dunderI nm)) none := looks_findIn X' h1
  have L2 : Looks M hh (typeLookup (.type "object") (dunderI nm)) none := looks_findIn X' h2
  unfold fillsInplaceSlot
  refine wpAny_bind (Lm'.at ?_)
  rw [hm, List.anyM_cons, List.anyM_cons, List.anyM_nil]
  refine wpAny_bind ?_
  repeat lk
  exact q
theorem ip_K {op : Operator} {b : Value} {Q : Value → Shared → Prop} {cd : ClassData} (F : Fr h₀ L s.heap m) (X₀ : K.In h₀) (I : InstAt s.heap x ox C od) (hb : Looks (model prog w) s.heap (typeOf b) (.ref C)) (hc : clsIn K C = some cd) (hm : cd.mro = [.ref C, .type "object"])
    (h1 : findIn K (.ref C) (dunderI op.info.2) = some none) (h2 : findIn K (.type "object") (dunderI op.info.2) = some none) (hs : findIn K (.ref C) (PySem.dunder op.info.2) = some (some (.ref f))) (hf : isFn K (.ref f) = true)
    (h : wpAny (model prog w) A (call (.ref f) [.ref x, b]) (PySem.W.CmpBack Q) E s) : wpAny (model prog w) A (inplaceOp op (.ref x) b) Q E s := by
  have X := X₀.keeps F.keep
  unfold inplaceOp
  refine wpAny_holding (wpAny_bind (I.type.here (wpAny_bind ((fillsI_none X hc hm h1 h2).here ?_))))
  simp only [Bool.false_eq_true, if_false]
  refine wpAny_bind ?_
  unfold binaryOp1
  refine wpAny_bind (I.type.here (wpAny_bind (hb.here (wpAny_bind ((fills_K X hc hm hs).here ?_)))))
  simp only [beq_self_eq_true, if_true]
  refine wpAny_bind (wpAny_pure ?_)
  simp only [Bool.and_false, Bool.false_eq_true, if_false, Bool.false_and]
  refine wpAny_bind (wpAny_pure ?_)
  simp only [Bool.false_eq_true, if_false]
  refine wpAny_bind (m := tryMethod (.ref x) _ b) ?_
  unfold tryMethod
  refine wpAny_bind (special_fn X I hs (beq_iff_eq.mp hf) (wpAny_mono h (fun v s' hv => ?_) fun _ _ e => e))
  cases v <;> first | exact hv.elim | exact wpAny_pure (wpAny_pure (wpAny_pure hv))
end
section
variable {X : Cx} {CX : CXT} {pins : List (Addr × Obj)} {σ : L2.St} {H : Hp} {s : Shared} {a C dx g : Addr} {fs : List (Str × V)} {fd : FuncData} {ps : List Str} {n : Nat} {sp : Sp} {E : XK}
theorem ip_binOwn {op : Operator} {cd : ClassData} (hc : PySem.W.clsIn X.K C = some cd) (hm : cd.mro = [.ref C, .type "object"]) (h1 : PySem.W.findIn X.K (.ref C) (PySem.dunderI op.info.2) = some none) (h2 : PySem.W.findIn X.K (.type "object") (PySem.dunderI op.info.2) = some none)
    (hs : PySem.W.findIn X.K (.ref C) (PySem.dunder op.info.2) = some (some (.ref g))) (hf : PySem.W.isFn X.K (.ref g) = true) (F : FnOk X.prog X.w X.K X.mg X.base CX n g fd ps sp)
    (hr : Room n X.A) (hb : Binds X.K fd ps []) (hx : Passes CX X E) : PIp X op (rBinOwn C sp E) := by
  intro pins s σ H x y v u Q I rx ry h
  obtain ⟨a, dx, fs, b, dy, gs, rfl, rfl, ha, hb', q⟩ := h
  cases (show v = Value.ref a from rx)
  cases (show u = Value.ref b from ry)
  obtain ⟨od, J⟩ := ins_inst I ha
  obtain ⟨od', J'⟩ := ins_inst I hb'
  obtain ⟨m, hF⟩ := I.fr
  refine ip_K (op := op) hF I.ok.mod.kin J J'.type hc hm h1 h2 hs hf ?_
  refine wpAny_mono (run_fn (us := [.ref a, .ref b]) (vs := [.ref a, .ref b]) F hr hb .nil hx I (.cons rfl (.cons rfl .nil)) (by exact q)) (fun w s' z => ?_) fun _ _ x => x
  obtain ⟨z', H', I', rz, qz⟩ := z
  exact not_ni rz ⟨z', H', I', rz, qz⟩
/-- x op y, y an int -/
def rBinInt (C : Addr) (sp : Sp) (E : XK) : R2 := fun x y H Q => ∃ a dx fs i, x = .ref a ∧ y = .int i ∧ H a = some (.ins C dx fs) ∧ sp [x, y] H Q E
theorem op_binInt {op : Operator} {fo ro rc : Option Value} (hc : PySem.W.selfFirst X.K C = true) (hs : PySem.W.findIn X.K (.ref C) (PySem.dunder op.info.2) = some (some (.ref g))) (hf : PySem.W.isFn X.K (.ref g) = true)
    (hR : PySem.W.findIn X.K (.ref C) (PySem.dunderR op.info.2) = some rc) (hp : rc = none ∨ ∃ g : Addr, rc = some (.ref g)) (h1 : PySem.W.findIn X.K (.type "int") (PySem.dunder op.info.2) = some fo) (h2 : PySem.W.findIn X.K (.type "int") (PySem.dunderR op.info.2) = some ro) (hsub : PySem.W.subIn X.K (.type "int") (.ref C) = some false)
    (F : FnOk X.prog X.w X.K X.mg X.base CX n g fd ps sp) (hr : Room n X.A) (hb : Binds X.K fd ps []) (hx : Passes CX X E) : OpR X (binaryOp op) (rBinInt C sp E) := by
  intro pins s σ H x y v u Q I rx ry h
  obtain ⟨a, dx, fs, i, rfl, rfl, ha, q⟩ := h
  cases (show v = Value.ref a from rx)
  obtain ⟨t, rfl⟩ := ry
  obtain ⟨od, J⟩ := ins_inst I ha
  obtain ⟨m, hF⟩ := I.fr
  refine PySem.W.ksp_binT (op := op) hF I.ok.mod.kin J rfl hc hs hf hR hp h1 h2 hsub ?_
  refine wpAny_mono (run_fn (us := [.ref a, .int i t]) (vs := [.ref a, .int i]) F hr hb .nil hx I (.cons rfl (.cons ⟨t, rfl⟩ .nil)) (by exact q)) (fun w s' z => ?_) fun _ _ x => x
  obtain ⟨z', H', I', rz, qz⟩ := z
  exact not_ni rz ⟨z', H', I', rz, qz⟩
end
end SR
set_option maxRecDepth 100000
set_option maxHeartbeats 4000000
/-! Own operators by what they promise. -/
namespace SR
open PySem PySem.Spec PyProof.Rows L2 Evl
section
variable (P : Program) (w : World) (K : PySem.W.Frag) (mg : Str → Option Value) (base : Heap)
structure BinOk (C : Addr) (k : Nat) (op : Operator) (sp : Sp) : Prop where
  ex : ∃ g fd ps, PySem.W.selfFirst K C = true ∧ PySem.W.findIn K (.ref C) (PySem.dunder op.info.2) = some (some (.ref g)) ∧ PySem.W.isFn K (.ref g) = true ∧ Binds K fd ps [] ∧ FnOk P w K mg base CX0 k g fd ps sp
structure IntOk (C : Addr) (op : Operator) : Prop where
  ex : ∃ fo ro rc, PySem.W.findIn K (.ref C) (PySem.dunderR op.info.2) = some rc ∧ (rc = none ∨ ∃ g : Addr, rc = some (.ref g)) ∧ PySem.W.findIn K (.type "int") (PySem.dunder op.info.2) = some fo ∧ PySem.W.findIn K (.type "int") (PySem.dunderR op.info.2) = some ro ∧ PySem.W.subIn K (.type "int") (.ref C) = some false
structure InOk (C : Addr) (op : Operator) : Prop where
  ex : ∃ cd, PySem.W.clsIn K C = some cd ∧ cd.mro = [.ref C, .type "object"] ∧ PySem.W.findIn K (.ref C) (PySem.dunderI op.info.2) = some none ∧ PySem.W.findIn K (.type "object") (PySem.dunderI op.info.2) = some none
end
section
variable {X : Cx} {k : Nat} {C : Addr} {sp : Sp} {op : Operator}
theorem op_binD (h : BinOk X.prog X.w X.K X.mg X.base C k op sp) (hr : Room k X.A) : OpR X (binaryOp op) (rBinOwn C sp E0) := by
  obtain ⟨g, fd, ps, hc, hs, hf, hb, F⟩ := h.ex
  exact op_binOwn hc hs hf F hr hb pass0
theorem op_intD (h : BinOk X.prog X.w X.K X.mg X.base C k op sp ∧ IntOk X.K C op) (hr : Room k X.A) : OpR X (binaryOp op) (rBinInt C sp E0) := by
  obtain ⟨g, fd, ps, hc, hs, hf, hb, F⟩ := h.1.ex
  obtain ⟨fo, ro, rc, h1, h2, h3, h4, h5⟩ := h.2.ex
  exact op_binInt hc hs hf h1 h2 h3 h4 h5 F hr hb pass0
theorem ip_binD (h : BinOk X.prog X.w X.K X.mg X.base C k op sp) (i : InOk X.K C op) (hr : Room k X.A) : PIp X op (rBinOwn C sp E0) := by
  obtain ⟨g, fd, ps, hc, hs, hf, hb, F⟩ := h.ex
  obtain ⟨cd, h1, h2, h3, h4⟩ := i.ex
  exact ip_binOwn h1 h2 h3 h4 hs hf F hr hb pass0
end
section
variable {K : PySem.W.Frag} {C : Addr} {G H : Hp} {ta tb : TE} {σ : L2.St} {w u : FilS} {d : D FilS} {R : List (D FilS) → D FilS → Prop}
def bin2 (r : R2) (H : Hp) (Q : VK) : List V → Prop
  | [x, y] => r x y H Q
  | _ => False
theorem bin_go {vs : List V} {Q : VK} (e : Ex G H) (as : AtL K (FilO K C) G [.obj w, .obj u] vs) (r : R [.obj w, .obj u] d) (k : RetG K (FilO K C) d G H Q) : bin2 (rBinOwn C (SpD K (FilO K C) R) E0) H Q vs := by
  obtain ⟨v1, r1, rfl, a1, n1⟩ := atL_cons.mp as
  obtain ⟨v2, r2, rfl, a2, n2⟩ := atL_cons.mp n1
  obtain rfl := atL_nil.mp n2
  obtain ⟨x, rfl, dx, tp, o, ts, kd, g1, _⟩ := at_obj.mp a1
  obtain ⟨y, rfl, dy, tp', o', ts', kd', g1', _⟩ := at_obj.mp a2
  exact ⟨x, dx, _, y, dy, _, rfl, rfl, e _ _ g1, e _ _ g1', G, [.obj w, .obj u], d, e, as, r, k⟩
/-- f op g -/
theorem ed_binF (h1 : EvD K (FilO K C) ta σ G (.obj w)) (h2 : EvD K (FilO K C) tb σ G (.obj u)) (r : R [.obj w, .obj u] d) : EvD K (FilO K C) (tOp (rBinOwn C (SpD K (FilO K C) R) E0) ta tb) σ G d := fun H1 e Q k =>
  (eda_cons h1 (eda_cons h2 eda_nil)) H1 e (fun vs H2 => bin2 (rBinOwn C (SpD K (FilO K C) R) E0) H2 Q vs) fun vs G2 H2 l as => bin_go l.e as r (k.mono l)
/-- f op n -/
theorem ed_intF {n : Int} (h1 : EvD K (FilO K C) ta σ G (.obj w)) (h2 : Ev tb σ G (.int n)) (r : R [.obj w, .int n] d) : EvD K (FilO K C) (tOp (rBinInt C (SpD K (FilO K C) R) E0) ta tb) σ G d := fun H1 e Q k =>
  h1 H1 e _ fun v G2 H2 l a => h2 H2 (l.g.trans l.e) _ fun H3 e3 => by
    obtain ⟨x, rfl, dx, tp, o, ts, kd, g1, gg⟩ := at_obj.mp a
    have l3 := l.trans (Le.heap l.e e3)
    exact ⟨x, dx, _, n, rfl, rfl, l3.e _ _ g1, G2, [.obj w, .int n], d, l3.e, atL_cons.mpr ⟨_, _, rfl, a, AtL.one (at_int.mpr rfl)⟩, r, k.mono l3⟩
/-- f op= g -/
theorem q_augF {i : Nat} {v : V} {De : Ends} {tz : TS} (hv : σ[i]? = some (some v)) (a : At K (FilO K C) G (.obj w) v) (h2 : EvD K (FilO K C) tb σ G (.obj u)) (r : R [.obj w, .obj u] d) (e : Ex G H) (k : ∀ z G2 H2, Le G H G2 H2 → At K (FilO K C) G2 d z → tz De (σ.set i (some z)) H2) :
    tSeq (tAug i tb (rBinOwn C (SpD K (FilO K C) R) E0)) tz De σ H := ⟨v, hv, h2 H e _ fun y G2 H2 l a2 => bin_go (vs := [v, y]) l.e (atL_cons.mpr ⟨_, _, rfl, a.mono l.g, AtL.one a2⟩) r fun z G3 H3 l3 a3 => k z G3 H3 (l.trans l3) a3⟩
end
/-- {k: v} -/
theorem ed_disp1 {ω : Type} {K : PySem.W.Frag} {O : OI ω} {G : Hp} {σ : L2.St} {tk tv : TE} {o c : Int} (h1 : Ev tk σ G (.int o)) (h2 : Ev tv σ G (.int c)) : EvD K O (tDisp [(tk, tv)]) σ G (.dic [(o, c)]) := fun H1 e Q k p hp =>
  have l := Le.newM (o := .dK []) e hp
  h1 _ l.e _ fun H2 e2 => h2 H2 (l.e.trans e2) _ fun H3 e3 => by
    have hp3 : H3 p = some (.dK []) := e3 p _ (e2 p _ upd_same)
    refine ⟨hp3, [(Sum.inl o, .int c)], rfl, by show 1 ≤ 15; decide, ?_⟩
    have l3 : Le G H1 G H3 := l.trans (Le.heap l.e (e2.trans e3))
    refine k (.ref p) (upd G p (.dK (kvI [(o, c)]))) _ ?_ (at_dic.mpr ⟨p, rfl, upd_same⟩)
    have l4 := l3.mut (o := .dK (kvI [(o, c)])) hp (none_of_ex e hp)
    have l5 := Le.fix e l4 hp upd_same
    exact l5
end SR
set_option maxRecDepth 100000
set_option maxHeartbeats 4000000
/-! try with several clauses «except X as n». -/
namespace SR
open PySem PySem.Spec PyProof.Rows L2
/-- .. slot i loses its value behind the suite -/
def endAs (D : Ends) (i : Nat) : Ends := ⟨fun z K1 => D.nx (z.set i none) K1, D.rt, fun z K1 => D.bk (z.set i none) K1, fun z K1 => D.ct (z.set i none) K1⟩
abbrev Clause := Value × Nat × (Addr → Value → Option Addr → TS)
/-- what the clauses, one behind the other, wish of an exception -/
def wAll (K : PySem.W.Frag) (Wo : WX) (D : Ends) : List Clause → WX
  | [] => Wo
  | q :: r => fun cls d z K1 => ∃ y, PySem.W.exmOne K cls q.1 = some y ∧ (y = true → ∀ a, K1 a = none → q.2.2 a cls d (endAs D q.2.1) (z.set q.2.1 (some (.ref a))) K1) ∧ (y = false → wAll K Wo D r cls d z K1)
inductive Clauses (X : Cx) : List ExceptHandler → List Clause → Prop
  | nil : Clauses X [] []
  | cons {x n : Str} {c : Value} {i : Nat} {ts : Addr → Value → Option Addr → TS} {b0 : Stmt} {suite : List Stmt} {np p : Pos} {hds : List ExceptHandler} {l : List Clause} (hc : Names X x c) (hi : X.N[i]? = some n) (hl : X.env.kindOf n = some .local)
      (hsu : ∀ (a : Addr) (oe : Obj) (cls : Value) (d : Option Addr) (pn : List (Addr × Obj)), Zc cls d oe → (∃ vs, oe.data = .fields vs) → PSs (X.suite a ((a, oe) :: pn)) (b0 :: suite) (ts a cls d)) (r : Clauses X hds l) :
      Clauses X (.ExceptHandler (some (.Name x np)) (some n) (b0 :: suite) p :: hds) ((c, i, ts) :: l)
section
variable {X : Cx} {pins : List (Addr × Obj)} {σ : L2.St} {H : Hp} {D : Ends} {Wo : WX}
/-- an exception in flight stands in no frame -/
theorem fly_out {B h : Heap} {l : List Env} {a : Addr} {Z : Obj → Prop} (x : HandSPX.FlyingZ B l a Z h) : a ∉ frs l := fun hm => by
  obtain ⟨oe, vs, he, _, hd⟩ := x.there
  obtain ⟨_, o, e, hnf⟩ := x.2.2.1.mem hm
  rw [he] at e
  cases e
  exact hnf _ hd
/-- an exception caught: where it flies, what stood when it was raised -/
structure Caught (X : Cx) (pins : List (Addr × Obj)) (σ : L2.St) (H : Hp) (B : Heap) (sI s' : Shared) (a : Addr) (cls : Value) (d : Option Addr) (h3 : Heap) : Prop where
  J : Inv X pins σ H sI
  nb : ∀ b o, sI.heap.get? b = some o → b ∉ frs X.stack → B.get? b = some o
  up : sI.heap.UpToSlots h3
  os : s'.os = sI.os
  ag : AllBare s'.gens
  na : H a = none
  fl : HandSPX.FlyingZ B (X.env :: X.outer) a (Zc cls d) h3
section
variable {B h3 : Heap} {sI s' : Shared} {a : Addr} {cls : Value} {d : Option Addr}
theorem Caught.inv (c : Caught X pins σ H B sI s' a cls d h3) : Inv X pins σ H { s' with heap := h3 } :=
  c.J.landed c.nb c.fl.1 c.up c.os c.ag
/-- .. as a suite sees it -/
theorem Caught.inSuite (c : Caught X pins σ H B sI s' a cls d h3) (hs : X.stack = X.env :: X.outer) (hf : X.env.frame = some X.env.locals) :
    ∃ oe, h3.get? a = some oe ∧ Zc cls d oe ∧ (∃ vs, oe.data = .fields vs) ∧ Inv (X.suite a ((a, oe) :: (X.pn ++ pins))) [] σ H { s' with heap := h3 } := by
  obtain ⟨oe, vs, g1, g2, g3⟩ := c.fl.there
  have out := fly_out c.fl
  have n1 : a ≠ X.env.locals := by
    intro z
    apply out
    rw [z]
    exact List.mem_filterMap.mpr ⟨X.env, List.mem_cons_self, hf⟩
  have n2 : a ∉ X.fs := by
    intro hm
    obtain ⟨y, hy, hz⟩ := List.mem_filterMap.mp hm
    exact out (List.mem_filterMap.mpr ⟨y, List.mem_cons_of_mem _ hy, hz⟩)
  exact ⟨oe, g1, g2, ⟨vs, g3⟩, c.inv.suite g1 g3 c.na n1 n2⟩
/-- no clause fits: it goes on -/
theorem Caught.on (c : Caught X pins σ H B sI s' a cls d h3) (hs : X.stack = X.env :: X.outer) (hf : X.env.frame = some X.env.locals) (tk : Takes X Wo) (w : Wo cls d σ H) :
    wpAny (model X.prog X.w) X.A (handleBy (.ref a) X.env []) (SP X pins D) X.xe { s' with heap := h3 } := by
  obtain ⟨_, _, _, oe, vs, T, oT, _, g1, g2, g3, g4, g5⟩ := id c.fl
  have go : wpAny (model X.prog X.w) X.A (setFlight (.ref a) X.env.frame) (fun _ u => wpAny (model X.prog X.w) X.A (throw (.ref a) : Sem Flow) (SP X pins D) X.xe u) X.xe { s' with heap := h3 } := by
    rw [hf]
    refine HandSPX.setFlight_upZ c.fl fun h4 fly up4 => ?_
    apply wpAny_throw
    refine tk _ _ ⟨a, B, sI, pins, σ, H, cls, d, rfl, c.J, c.nb, c.up.trans up4, Or.inr (Or.inr ?_), c.na, c.os, c.ag, w⟩
    rw [hs]
    exact fly
  apply wpAny_handleBy_nil
  unfold PySem.passOn
  apply wpAny_bind
  apply wpAny_field g1 g3 g4
  rw [if_neg (by simp)]
  first
    | exact wpAny_bind go
    | exact wpAny_bind (wpAny_pure (wpAny_bind go))
/-- the clauses from left to right -/
theorem Caught.all {hds : List ExceptHandler} {l : List Clause} (k : Clauses X hds l) (c : Caught X pins σ H B sI s' a cls d h3) (ok : X.Ok) (hN : X.N.Nodup) (hs : X.stack = X.env :: X.outer) (hf : X.env.frame = some X.env.locals) (tk : Takes X Wo)
    (w : wAll X.K Wo D l cls d σ H) : wpAny (model X.prog X.w) X.A (handleBy (.ref a) X.env hds) (SP X pins D) X.xe { s' with heap := h3 } := by
  induction k with
  | nil => exact c.on hs hf tk w
  | @cons x n ce i ts b0 suite np p hds' l' hc hi hl hsu r ih =>
    obtain ⟨y, hy, w1, w0⟩ := w
    obtain ⟨oe, g1, g2, g3, S3⟩ := c.inSuite hs hf
    have ty : PySem.W.Looks (model X.prog X.w) h3 (typeOf (.ref a)) cls := by
      intro A Q E s k q
      refine wpAny_typeOf_ref (k _ _ g1) ?_
      rw [g2.1]
      exact q
    have fits := PySem.W.exm_one (M := model X.prog X.w) c.inv.kIn ty hy
    have name : ∀ {Q E : Value → Shared → Prop}, Q ce { s' with heap := h3 } → wpAny (model X.prog X.w) (X.A.mark (some (.ref a))) (eval (.Name x np) X.env) Q E { s' with heap := h3 } := by
      intro Q E q
      obtain ⟨m1, m2, m3⟩ := hc
      rcases m3 with m3 | ⟨m3, m4, m5⟩
      · exact ld_glob (X := X.suite a ((a, oe) :: (X.pn ++ pins))) S3 m1 m3 q m2
      · exact ld_blt (X := X.suite a ((a, oe) :: (X.pn ++ pins))) S3 m1 m3 m4 q m5 m2
    apply wpAny_handleBy_cons (codeAny_handlers_test ?_) (by intro q; cases q)
    apply name
    apply fits.here
    cases y with
    | false => exact ih (w0 rfl)
    | true =>
      apply codeAny_handlers_suite_as
      refine HandSPX.lands_againZ c.fl fun h4 fly up4 => ?_
      have c4 : Caught X pins σ H B sI s' a cls d h4 := ⟨c.J, c.nb, c.up.trans up4, c.os, c.ag, c.na, fly⟩
      obtain ⟨o4, k1, k2, k3, S4⟩ := c4.inSuite hs hf
      refine store_ok (X := X.suite a ((a, o4) :: (X.pn ++ pins))) (v := .ref a) S4 hN hi (Or.inl hl) rfl (fun s5 S5 => ?_) (Or.inr hl)
      have gone : ∀ {z : L2.St} {K1 : Hp} {s6 : Shared} {Q : Shared → Prop}, Inv (X.suite a ((a, o4) :: (X.pn ++ pins))) [] z K1 s6 → (∀ s7, Inv X pins (z.set i none) K1 s7 → Q s7) → wpAny (model X.prog X.w) X.A (do bindName X.env n .none; unbindBehindTheSuite X.env n p) (fun _ s7 => Q s7) X.xe s6 :=
        fun S6 hq => gone_ok (S6.unsuite ok) hN hi hl hq
      refine wpAny_mono ((hsu a o4 cls d (X.pn ++ pins) k2 k3).run [] s5 _ H _ S5 (w1 rfl a c.na)) ?_ fun _ _ z => z.elim
      intro f s6 q6
      cases f with
      | ret u =>
        obtain ⟨v6, z, K1, S6, r6, q6⟩ := q6
        exact gone S6 fun _ J7 => ⟨v6, _, K1, J7, r6, q6⟩
      | next =>
        obtain ⟨z, K1, S6, q6⟩ := q6
        exact gone S6 fun _ J7 => ⟨_, K1, J7, q6⟩
      | brk =>
        obtain ⟨z, K1, S6, q6⟩ := q6
        exact gone S6 fun _ J7 => ⟨_, K1, J7, q6⟩
      | cont =>
        obtain ⟨z, K1, S6, q6⟩ := q6
        exact gone S6 fun _ J7 => ⟨_, K1, J7, q6⟩
end
variable {body : List Stmt} {h0 : ExceptHandler} {hds : List ExceptHandler} {l : List Clause} {pos : Pos} {tb : WX → TS}
/-- try: body / except x as n: .. / except y as m: .. -/
theorem ps_try_all (hs : X.stack = X.env :: X.outer) (hf : X.env.frame = some X.env.locals) (hN : X.N.Nodup) (tk : Takes X Wo)
    (hb : ∀ (W : WX) (pn : List (Addr × Obj)) (xe : Value → Shared → Prop), Takes (X.tr pn xe) W → PassesOwn (model X.prog X.w) X.A X.env xe → PSs (X.tr pn xe) body (tb W)) (hh : Clauses X (h0 :: hds) l) :
    PS X (.Try body (h0 :: hds) [] [] pos) (fun D σ H => tb (wAll X.K Wo D l) D σ H) := by
  constructor
  intro pins s σ H D I h
  have ok := I.ok
  have fr : X.A.frames = some (X.env :: X.outer) := ok.frames.trans (congrArg some hs)
  let xe' : Value → Shared → Prop := fun e s1 => wpAny (model X.prog X.w) X.A (noteFrame e X.env) (fun _ s2 => wpAny (model X.prog X.w) X.A (setFlight e none) (fun _ s3 => wpAny (model X.prog X.w) X.A (handleBy e X.env (h0 :: hds)) (SP X pins D) X.xe s3) X.xe s2) X.xe s1
  have tk' : Takes (X.tr (X.pn ++ pins) xe') (wAll X.K Wo D l) := by
    rintro u s' ⟨a, B, sI, pins', z, K1, cls, d, rfl, J', nb, up, sky, na, os, ag, w⟩
    have J : Inv X pins z K1 sI := J'.ofTry ok
    have sky' : Sky B (X.env :: X.outer) a (Zc cls d) X.env.locals s'.heap := hs ▸ sky
    show wpAny (model X.prog X.w) X.A (noteFrame (.ref a) X.env) _ _ _
    refine Sky.land Zc.steady fr hf sky' fun h3 fly up3 => ?_
    have c : Caught X pins z K1 B sI s' a cls d h3 := ⟨J, nb, up.trans up3, os, ag, na, fly⟩
    exact c.all hh ok hN hs hf tk w
  apply wpAny_Try_except
  refine wpAny_mono ((hb _ (X.pn ++ pins) xe' tk' PassesOwn.looking).run [] s σ H D (I.toTry _) h) ?_ fun _ _ z => z
  intro f s1 q
  cases f with
  | next =>
    obtain ⟨z, K1, J', q⟩ := q
    exact wpAny_execs_nil ⟨z, K1, J'.ofTry ok, q⟩
  | ret u =>
    obtain ⟨v, z, K1, J', r, q⟩ := q
    exact ⟨v, z, K1, J'.ofTry ok, r, q⟩
  | brk =>
    obtain ⟨z, K1, J', q⟩ := q
    exact ⟨z, K1, J'.ofTry ok, q⟩
  | cont =>
    obtain ⟨z, K1, J', q⟩ := q
    exact ⟨z, K1, J'.ofTry ok, q⟩
end
end SR
set_option maxRecDepth 100000
set_option maxHeartbeats 4000000
/-! Defs over data that may raise. -/
namespace SR
open PySem PySem.Spec PyProof.Rows L2 Evl
/-- what flies: its class, perhaps a field -/
abbrev XOut (ω : Type) := Addr × Option (Str × D ω)
section
variable {ω : Type} (K : PySem.W.Frag) (O : OI ω)
def ExcG (x : XOut ω) (G H : Hp) (E : XK) : Prop := match x.2 with
  | none => ∀ G2 H2, Le G H G2 H2 → E (.ref x.1) none H2
  | some fd => ∀ a v G2 H2, Le G H G2 H2 → H a = none → G2 a = some (.xd [(fd.1, v)]) → At K O G2 fd.2 v → E (.ref x.1) (some a) H2
/-- what a def comes to -/
def Out (G H : Hp) (Q : VK) (E : XK) : D ω ⊕ XOut ω → Prop
  | .inl d => RetG K O d G H Q
  | .inr x => ExcG K O x G H E
def SpE (R : List (D ω) → D ω ⊕ XOut ω → Prop) : Sp := fun vs H Q E => ∃ G ds r, Ex G H ∧ AtL K O G ds vs ∧ R ds r ∧ Out K O G H Q E r
end
section
variable {ω : Type} {K : PySem.W.Frag} {O : OI ω} {G G1 H H1 : Hp} {E : XK} {x : XOut ω} {σ : L2.St} {t : TA} {d : D ω} {ds : List (D ω)}
theorem ExcG.mono (l : Le G H G1 H1) (k : ExcG K O x G H E) : ExcG K O x G1 H1 E := by
  obtain ⟨C, f⟩ := x
  cases f with
  | none => exact fun G2 H2 l2 => k G2 H2 (l.trans l2)
  | some fd => exact fun a v G2 H2 l2 hn ha hv => k a v G2 H2 (l.trans l2) (l.back hn) ha hv
/-- no error leaves a def that nobody lets raise -/
theorem FnOk.noE {P : Program} {w : World} {mg : Str → Option Value} {base : Heap} {k : Nat} {f : Addr} {fd : FuncData} {ps : List Str} {sp : Sp} (F : FnOk P w K mg base (L2.CX P w) k f fd ps sp) : FnOk P w K mg base CX0 k f fd ps (fun vs H Q _ => sp vs H Q E0) := by
  refine ⟨fun vs H Q E h => F.len vs H Q E0 h, fun A outer s H args us vs Q E hr e0 b r h => ?_⟩
  refine codeAny_mono (F.run A outer s H args us vs Q E0 hr e0 b r h) fun res s' q => ?_
  cases res with
  | ok fl => cases fl <;> exact q
  | error er =>
    obtain ⟨_, _, _, _, _, _, _, _, _, _, _, _, z⟩ := (show L2.CX P w outer H s E0 er s' from q)
    exact z.elim
theorem FnOk.ret {P : Program} {w : World} {mg : Str → Option Value} {base : Heap} {k : Nat} {f : Addr} {fd : FuncData} {ps : List Str} {R : List (D ω) → D ω ⊕ XOut ω → Prop} {R' : List (D ω) → D ω → Prop}
    (F : FnOk P w K mg base (L2.CX P w) k f fd ps (SpE K O R)) (h : ∀ ds d, R' ds d → R ds (.inl d)) : FnOk P w K mg base CX0 k f fd ps (SpD K O R') :=
  (FnOk.noE F).imp fun vs H Q E ⟨G, ds, d, e, as, r, kk⟩ => ⟨G, ds, .inl d, e, as, h ds d r, kk⟩
theorem ed_callS {R : List (D ω) → D ω ⊕ XOut ω → Prop} {E : L2.St → XK} (h : EvDA K O t σ G ds) (r : R ds (.inl d)) : EvD K O (tCallS (SpE K O R) E t) σ G d := fun H1 e Q k =>
  h H1 e _ fun vs G2 H2 l as => ⟨G2, ds, .inl d, l.e, as, r, RetG.mono l k⟩
theorem x_callS {R : List (D ω) → D ω ⊕ XOut ω → Prop} {E : L2.St → XK} {Q : VK} (h : EvDA K O t σ G ds) (e : Ex G H) (r : R ds (.inr x)) (k : ExcG K O x G H (E σ)) : tCallS (SpE K O R) E t σ H Q :=
  h H e _ fun vs G2 H2 l as => ⟨G2, ds, .inr x, l.e, as, r, k.mono l⟩
end
/-! ### an own class of errors, without __init__ -/
section
variable {X : Cx} {C : Addr} {bmB : List Value} {B newId initId : String}
/-- C() -/
theorem pmk_none {x : Str} {p pos : Pos} (F : ExcBaseFacts B newId initId bmB) (q : PySem.W.excIn X.K C bmB newId = true) (gC : X.mg x = some (.ref C)) (kC : PySem.W.keepIn X.K (.ref C) = true) (r : Raises X (.ref C)) (hg : Gl X x)
    (hdb : (x == ("__debug__" : Str)) = false := by decide) : PMk X (.Call (.Name x p) [] [] pos) (fun _ H Q => Q (.ref C) none H) := by
  intro pins s σ H Q I h
  refine wpAny_Call_Name_kw (ld_glob I hg gC ?_ hdb)
  refine PySem.W.callWith_K0 I.kIn kC ?_
  obtain ⟨bm, N, nm, qn, bs, hdct, sn, sub, ab, col, dd, k0, k1, k2, k3, k5, mN, hC, hN, hni, T⟩ := exc_obj I.kIn q
  refine wpAny_call_exc_subT F T hC hN hni (fun h' e hm => mk_of I hm r h (I.hok.gone hm.new)) ?_
  show (0 : Nat) ≤ sizeLine
  exact Nat.zero_le _
end
/-- what is known of such a class -/
structure ExP (K : PySem.W.Frag) (mg : Str → Option Value) (x : Str) (C : Addr) : Prop where
  g : mg x = some (.ref C)
  e : PySem.W.excIn K C [.type "ValueError", .type "Exception", .type "BaseException", .type "object"] "ValueError.__new__" = true
  k : PySem.W.keepIn K (.ref C) = true
  b : PySem.W.subIn K (.ref C) (.type "BaseException") = some true
  t : PySem.W.typeIn K (.ref C) = some (.type "type")
section
variable {X : Cx} {C : Addr} {W : WX} {x : Str} {p pos pos2 : Pos}
/-- raise C() -/
theorem ps_raise0 (h : ExP X.K X.mg x C) (hc : X.calm = true) (tk : Takes X W) (hg : Gl X x) (hdb : (x == ("__debug__" : Str)) = false := by decide) : PS X (.Raise (some (.Call (.Name x p) [] [] pos)) none pos2) (fun _ σ H => W (.ref C) none σ H) :=
  ps_raise hc tk (pmk_none PySem.F.excBase_ValueError h.e h.g h.k (raises_own h.b h.t) hg hdb)
end
section
variable (P : Program) (w : World) (K : PySem.W.Frag) (mg : Str → Option Value) (base : Heap)
structure DefOkX (k : Nat) (x : Str) (ps : List Str) (sp : Sp) : Prop where
  ex : ∃ f fd, mg x = some (.ref f) ∧ PySem.W.keepIn K (.ref f) = true ∧ Binds K fd ps [] ∧ FnOk P w K mg base (L2.CX P w) k f fd ps sp
structure BinOkX (C : Addr) (k : Nat) (op : Operator) (sp : Sp) : Prop where
  ex : ∃ g fd ps, PySem.W.selfFirst K C = true ∧ PySem.W.findIn K (.ref C) (PySem.dunder op.info.2) = some (some (.ref g)) ∧ PySem.W.isFn K (.ref g) = true ∧ Binds K fd ps [] ∧ FnOk P w K mg base (L2.CX P w) k g fd ps sp
end
section
variable {X : Cx} {k : Nat} {C : Addr} {ps : List Str} {sp : Sp} {x : Str} {p pos : Pos} {e : Expr} {es : List Expr} {t : TA} {W : WX} {op : Operator}
theorem pe_callX (tk : Takes X W) (h : DefOkX X.prog X.w X.K X.mg X.base k x ps sp) (hr : Room k X.A) (ha : PA X (e :: es) t) (hg : Gl X x := by rfl) (hdb : (x == ("__debug__" : Str)) = false := by decide)
    (he : starEach (e :: es) X.env = (false, eval e X.env) :: starEach es X.env := by rfl) (hpl : (backTo pos (starEach es X.env)).any (·.1) = false := by rfl) : PE X (.Call (.Name x p) (e :: es) [] pos) (tCallS sp (WE W) t) := by
  obtain ⟨f, fd, hm, hk, hb, F⟩ := h.ex
  exact pe_callS F hr hg hm hk hb (fun σ => passAt tk σ) ha hdb he hpl
/-- what a def lets out goes on as it is -/
theorem pass_on {E : XK} (tk : Takes X (fun cls d _ H => E cls d H)) : Passes (L2.CX X.prog X.w) X E := fun _ σ _ _ er s' I c => tk er s' (XE.of_call I (fun _ _ _ h => h) c)
theorem op_binX {E : XK} (tk : Takes X (fun cls d _ H => E cls d H)) (h : BinOkX X.prog X.w X.K X.mg X.base C k op sp) (hr : Room k X.A) : OpR X (binaryOp op) (rBinOwn C sp E) := by
  obtain ⟨g, fd, ps, hc, hs, hf, hb, F⟩ := h.ex
  exact op_binOwn hc hs hf F hr hb (pass_on tk)
end
section
variable {K : PySem.W.Frag} {C : Addr} {G H : Hp} {ta tb : TE} {σ : L2.St} {w u : FilS} {E : XK} {x : XOut FilS} {R : List (D FilS) → D FilS ⊕ XOut FilS → Prop} {Q : VK}
/-- f op g raises -/
theorem x_binF (h1 : EvD K (FilO K C) ta σ G (.obj w)) (h2 : EvD K (FilO K C) tb σ G (.obj u)) (r : R [.obj w, .obj u] (.inr x)) (e : Ex G H) (k : ExcG K (FilO K C) x G H E) : tOp (rBinOwn C (SpE K (FilO K C) R) E) ta tb σ H Q :=
  h1 H e _ fun v G2 H2 l a => h2 H2 (e.trans l.h) _ fun y G3 H3 l3 b => by
    obtain ⟨p, rfl, dx, tp, o, ts, kd, g1, g2⟩ := at_obj.mp a
    obtain ⟨q, rfl, dy, tp', o', ts', kd', f1, f2⟩ := at_obj.mp b
    have e2 : Ex G2 H3 := l.e.trans l3.h
    have e3 : Ex G2 (hun G3 G2) := hun_r l3.e e2
    refine ⟨p, dx, _, q, dy, _, rfl, rfl, e2 _ _ g1, l3.e _ _ f1, hun G3 G2, [.obj w, .obj u], .inr x, hun_ex l3.e e2, atL_cons.mpr ⟨_, _, rfl, a.mono e3, AtL.one (b.mono hun_l)⟩, r, ?_⟩
    refine k.mono ⟨l.h.trans l3.h, l.g.trans e3, hun_ex l3.e e2, fun y hg hh => ?_, hun_t l3.t l.t⟩
    have n2 := l.f y hg hh
    have h2' : H2 y ≠ none := fun z => hh (fresh_back l.h z)
    unfold hun
    rw [l3.f y hg h2']
    exact n2
end
end SR
set_option maxRecDepth 100000
set_option maxHeartbeats 4000000
/-! What was promised of few kinds of objects, told of more kinds. -/
namespace SR
open PySem PySem.Spec PyProof.Rows L2 Evl
section
variable {α β : Type} (f : α → β)
mutual
def dmap : D α → D β
  | .non => .non | .bl b => .bl b | .int i => .int i | .str x => .str x
  | .lst l => .lst (dmapL l) | .tup l => .tup (dmapL l) | .dic m => .dic m | .obj w => .obj (f w)
def dmapL : List (D α) → List (D β)
  | [] => []
  | d :: l => dmap d :: dmapL l
end
end
section
variable {α β : Type} {f : α → β} {K : PySem.W.Frag} {O : OI α} {O' : OI β} {H : Hp}
/-- O' holds the objects of O, as f tells them -/
def Lifts (O : OI α) (O' : OI β) (f : α → β) : Prop := ∀ H a w, O'.at_ H a (f w) ↔ O.at_ H a w
theorem dmapL_len : ∀ {l : List (D α)}, (dmapL f l).length = l.length
  | [] => rfl
  | _ :: l => by show (dmapL f l).length + 1 = _; rw [dmapL_len (l := l)]; rfl
mutual
theorem at_dmap (h : Lifts O O' f) : ∀ {d : D α} {v : V}, At K O' H (dmap f d) v ↔ At K O H d v
  | .non, v => by simp only [dmap, At]
  | .bl b, v => by simp only [dmap, At]
  | .int i, v => by simp only [dmap, At]
  | .str x, v => by simp only [dmap, At]
  | .lst l, v => by
    simp only [dmap, At]
    constructor
    · rintro ⟨a, vs, e1, e2, e3⟩
      exact ⟨a, vs, e1, e2, (atL_dmap h).mp e3⟩
    · rintro ⟨a, vs, e1, e2, e3⟩
      exact ⟨a, vs, e1, e2, (atL_dmap h).mpr e3⟩
  | .tup l, v => by
    simp only [dmap, At]
    constructor
    · rintro ⟨a, vs, e1, e2, e3⟩
      exact ⟨a, vs, e1, e2, (atL_dmap h).mp e3⟩
    · rintro ⟨a, vs, e1, e2, e3⟩
      exact ⟨a, vs, e1, e2, (atL_dmap h).mpr e3⟩
  | .dic m, v => by simp only [dmap, At]
  | .obj w, v => by
    simp only [dmap, At]
    constructor
    · rintro ⟨a, e1, e2⟩
      exact ⟨a, e1, (h _ _ _).mp e2⟩
    · rintro ⟨a, e1, e2⟩
      exact ⟨a, e1, (h _ _ _).mpr e2⟩
theorem atL_dmap (h : Lifts O O' f) : ∀ {l : List (D α)} {vs : List V}, AtL K O' H (dmapL f l) vs ↔ AtL K O H l vs
  | [], vs => by simp only [dmapL, AtL]
  | d :: l, vs => by
    simp only [dmapL, AtL]
    constructor
    · rintro ⟨v, r, e1, e2, e3⟩
      exact ⟨v, r, e1, (at_dmap h).mp e2, (atL_dmap h).mp e3⟩
    · rintro ⟨v, r, e1, e2, e3⟩
      exact ⟨v, r, e1, (at_dmap h).mpr e2, (atL_dmap h).mpr e3⟩
end
def liftR (f : α → β) (R : List (D α) → D α → Prop) : List (D β) → D β → Prop := fun ds' d' => ∃ ds d, ds' = dmapL f ds ∧ d' = dmap f d ∧ R ds d
def liftP (f : α → β) (P : List (D α) → Prop) : List (D β) → Prop := fun ds' => ∃ ds, ds' = dmapL f ds ∧ P ds
def liftO (f : α → β) : D α ⊕ XOut α → D β ⊕ XOut β
  | .inl d => .inl (dmap f d)
  | .inr x => .inr (x.1, x.2.map fun p => (p.1, dmap f p.2))
def liftE (f : α → β) (R : List (D α) → D α ⊕ XOut α → Prop) : List (D β) → D β ⊕ XOut β → Prop := fun ds' r' => ∃ ds r, ds' = dmapL f ds ∧ r' = liftO f r ∧ R ds r
section
variable {P : Program} {w : World} {mg : Str → Option Value} {base : Heap} {CX : CXT} {k : Nat} {a : Addr} {fd : FuncData} {ps : List Str}
theorem FnOk.lift {R : List (D α) → D α → Prop} (h : Lifts O O' f) (F : FnOk P w K mg base CX k a fd ps (SpD K O R)) : FnOk P w K mg base CX k a fd ps (SpD K O' (liftR f R)) :=
  F.imp fun vs H Q E ⟨G, ds', d', e, as, ⟨ds, d, e1, e2, r⟩, kk⟩ => by
    subst e1 e2
    exact ⟨G, ds, d, e, (atL_dmap h).mp as, r, fun v G2 H2 l av => kk v G2 H2 l ((at_dmap h).mpr av)⟩
theorem FnOk.liftX {add : Nat} {Pre : List (D α) → Prop} {R : List (D α) → D α → Prop} (h : Lifts O O' f) (F : FnOk P w K mg base CX k a fd ps (SpX K O add Pre R)) : FnOk P w K mg base CX k a fd ps (SpX K O' add (liftP f Pre) (liftR f R)) :=
  F.imp fun vs H Q E ⟨G, s, q, n, ds', ws, e0, e, gs, gq, spr, hn, as, ⟨ds, e1, pre⟩, kk⟩ => by
    subst e1
    exact ⟨G, s, q, n, ds, ws, e0, e, gs, gq, spr, hn, (atL_dmap h).mp as, pre, fun d v G2 H2 r l sp av => kk (dmap f d) v G2 H2 ⟨ds, d, rfl, rfl, r⟩ l sp ((at_dmap h).mpr av)⟩
theorem FnOk.liftE {R : List (D α) → D α ⊕ XOut α → Prop} (h : Lifts O O' f) (F : FnOk P w K mg base CX k a fd ps (SpE K O R)) : FnOk P w K mg base CX k a fd ps (SpE K O' (SR.liftE f R)) :=
  F.imp fun vs H Q E ⟨G, ds', r', e, as, ⟨ds, r, e1, e2, hr⟩, kk⟩ => by
    subst e1 e2
    refine ⟨G, ds, r, e, (atL_dmap h).mp as, hr, ?_⟩
    cases r with
    | inl d => exact fun v G2 H2 l av => kk v G2 H2 l ((at_dmap h).mpr av)
    | inr x =>
      obtain ⟨C, o⟩ := x
      cases o with
      | none => exact kk
      | some p => exact fun b v G2 H2 l hn hb hv => kk b v G2 H2 l hn hb ((at_dmap h).mpr hv)
end
section
variable {G G2 : Hp} {te : TE} {ta : TA} {σ : L2.St} {d : D α} {ds : List (D α)} {Q : VK} {E : XK} {x : XOut α}
theorem retG_lift (h : Lifts O O' f) : RetG K O' (dmap f d) G H Q ↔ RetG K O d G H Q :=
  ⟨fun k v G2 H2 l a => k v G2 H2 l ((at_dmap h).mpr a), fun k v G2 H2 l a => k v G2 H2 l ((at_dmap h).mp a)⟩
/-- what is known over the fewer kinds holds over the more kinds, and the other way about -/
theorem ed_lift (h : Lifts O O' f) : EvD K O' te σ G (dmap f d) ↔ EvD K O te σ G d :=
  ⟨fun k H1 e Q q => k H1 e Q ((retG_lift h).mpr q), fun k H1 e Q q => k H1 e Q ((retG_lift h).mp q)⟩
theorem eda_lift (h : Lifts O O' f) : EvDA K O' ta σ G (dmapL f ds) ↔ EvDA K O ta σ G ds :=
  ⟨fun k H1 e Q q => k H1 e Q fun vs G2 H2 l a => q vs G2 H2 l ((atL_dmap h).mp a), fun k H1 e Q q => k H1 e Q fun vs G2 H2 l a => q vs G2 H2 l ((atL_dmap h).mpr a)⟩
theorem src_lift {wi : TI} (h : Lifts O O' f) (s : Src K O wi σ G ds) : Src K O' wi σ G (dmapL f ds) := fun H1 e R k =>
  s H1 e R fun J Gd Y G2 H2 l w hG yl => k J Gd Y G2 H2 l (by rw [dmapL_len]; exact w) hG fun i Gi Hi x Hi' eg eh hi y => by
    rw [dmapL_len] at hi
    obtain ⟨c, Gi', hc, l', ac⟩ := yl i Gi Hi x Hi' eg eh hi y
    exact ⟨dmap f c, Gi', by rw [show ∀ (l : List (D α)) (i : Nat), (dmapL f l)[i]? = (l[i]?).map (dmap f) from fun l => by
      induction l with
      | nil => intro i; simp [dmapL]
      | cons d l ih => intro i; cases i with
        | zero => simp [dmapL]
        | succ i => simpa [dmapL] using ih i]; rw [hc]; rfl, l', (at_dmap h).mpr ac⟩
end
end
end SR
set_option maxRecDepth 100000
set_option maxHeartbeats 4000000
/-! Lists of places and coefficients as a commutative ring, modulo p. -/
namespace SR
abbrev PL := List (Int × Int)
theorem totl_cons {q : Int × Int} {a : PL} {o : Int} : totl (q :: a) o = (if q.1 = o then q.2 else 0) + totl a o := rfl
def shf (q : Int × Int) (b : PL) : PL := b.map fun r => (q.1 + r.1, q.2 * r.2)
def prodL (a b : PL) : PL := a.flatMap fun q => shf q b
theorem prodL_cons {q : Int × Int} {a b : PL} : prodL (q :: a) b = shf q b ++ prodL a b := rfl
theorem prodL_app {a b c : PL} : prodL (a ++ b) c = prodL a c ++ prodL b c := List.flatMap_append
theorem totl_shf {q : Int × Int} {o : Int} : ∀ {b : PL}, totl (shf q b) o = q.2 * totl b (o - q.1)
  | [] => (Int.mul_zero _).symm
  | r :: b => by
    show totl ((q.1 + r.1, q.2 * r.2) :: shf q b) o = _
    rw [totl_cons, totl_cons, totl_shf, Int.mul_add]
    by_cases h : r.1 = o - q.1
    · rw [if_pos h, if_pos (by show q.1 + r.1 = o; omega)]
    · rw [if_neg h, if_neg (by show ¬ q.1 + r.1 = o; omega), Int.mul_zero]
theorem totl_prod_cons {q : Int × Int} {a b : PL} {o : Int} : totl (prodL (q :: a) b) o = q.2 * totl b (o - q.1) + totl (prodL a b) o := by
  rw [prodL_cons, totl_append, totl_shf]
theorem totl_prod_nil : ∀ {b : PL} {o : Int}, totl (prodL b []) o = 0
  | [], o => rfl
  | q :: b, o => by
    rw [totl_prod_cons, totl_prod_nil]
    show q.2 * 0 + 0 = 0
    rw [Int.mul_zero]
    rfl
theorem totl_prod_consR {q : Int × Int} {a : PL} {o : Int} : ∀ {b : PL}, totl (prodL b (q :: a)) o = q.2 * totl b (o - q.1) + totl (prodL b a) o
  | [] => by show (0 : Int) = q.2 * 0 + 0; rw [Int.mul_zero]; rfl
  | r :: b => by
    rw [totl_prod_cons, totl_prod_cons, totl_prod_consR, totl_cons, totl_cons, Int.mul_add, Int.mul_add]
    by_cases h : q.1 = o - r.1
    · rw [if_pos h, if_pos (by omega), Int.mul_comm r.2 q.2]
      omega
    · rw [if_neg h, if_neg (by omega), Int.mul_zero, Int.mul_zero]
      omega
theorem totl_prod_comm {b : PL} {o : Int} : ∀ {a : PL}, totl (prodL a b) o = totl (prodL b a) o
  | [] => totl_prod_nil.symm
  | q :: a => by rw [totl_prod_cons, totl_prod_consR, totl_prod_comm]
theorem totl_shf_prod {q : Int × Int} {c : PL} {o : Int} : ∀ {b : PL}, totl (prodL (shf q b) c) o = q.2 * totl (prodL b c) (o - q.1)
  | [] => (Int.mul_zero _).symm
  | r :: b => by
    show totl (prodL ((q.1 + r.1, q.2 * r.2) :: shf q b) c) o = _
    rw [totl_prod_cons, totl_prod_cons, totl_shf_prod, Int.mul_add, Int.mul_assoc]
    show q.2 * (r.2 * totl c (o - (q.1 + r.1))) + _ = _
    rw [show o - (q.1 + r.1) = o - q.1 - r.1 by omega]
theorem totl_prod_assoc {b c : PL} {o : Int} : ∀ {a : PL}, totl (prodL (prodL a b) c) o = totl (prodL a (prodL b c)) o
  | [] => rfl
  | q :: a => by rw [prodL_cons, prodL_app, totl_append, totl_shf_prod, totl_prod_cons, totl_prod_assoc]
def scl (n : Int) (a : PL) : PL := a.map fun q => (q.1, n * q.2)
theorem totl_scl {n o : Int} : ∀ {a : PL}, totl (scl n a) o = n * totl a o
  | [] => (Int.mul_zero _).symm
  | q :: a => by
    show totl ((q.1, n * q.2) :: scl n a) o = _
    rw [totl_cons, totl_cons, totl_scl, Int.mul_add]
    by_cases h : q.1 = o
    · rw [if_pos h, if_pos h]
    · rw [if_neg h, if_neg h, Int.mul_zero]
/-! ### equal modulo p -/
def Eqv (p : Int) (a b : PL) : Prop := ∀ o, ∃ z, totl a o = totl b o + p * z
theorem Eqv.of {p : Int} {a b : PL} (h : ∀ o, totl a o = totl b o) : Eqv p a b := fun o => ⟨0, by rw [h o]; omega⟩
theorem Eqv.refl {p : Int} {a : PL} : Eqv p a a := .of fun _ => rfl
theorem Eqv.symm {p : Int} {a b : PL} (h : Eqv p a b) : Eqv p b a := fun o => by
  obtain ⟨z, e⟩ := h o
  exact ⟨-z, by rw [e, Int.mul_neg]; omega⟩
theorem Eqv.trans {p : Int} {a b c : PL} (h : Eqv p a b) (g : Eqv p b c) : Eqv p a c := fun o => by
  obtain ⟨z, e⟩ := h o
  obtain ⟨y, f⟩ := g o
  exact ⟨y + z, by rw [e, f, Int.mul_add]; omega⟩
theorem Eqv.app {p : Int} {a b c d : PL} (h : Eqv p a b) (g : Eqv p c d) : Eqv p (a ++ c) (b ++ d) := fun o => by
  obtain ⟨z, e⟩ := h o
  obtain ⟨y, f⟩ := g o
  exact ⟨z + y, by rw [totl_append, totl_append, e, f, Int.mul_add]; omega⟩
theorem Eqv.scl {p n : Int} {a b : PL} (h : Eqv p a b) : Eqv p (scl n a) (scl n b) := fun o => by
  obtain ⟨z, e⟩ := h o
  exact ⟨n * z, by rw [totl_scl, totl_scl, e, Int.mul_add, Int.mul_left_comm]⟩
theorem Eqv.prodR {p : Int} {b c : PL} (h : Eqv p b c) : ∀ {a : PL}, Eqv p (prodL a b) (prodL a c)
  | [] => .refl
  | q :: a => fun o => by
    obtain ⟨z, e⟩ := h (o - q.1)
    obtain ⟨y, f⟩ := (Eqv.prodR h (a := a)) o
    exact ⟨q.2 * z + y, by rw [totl_prod_cons, totl_prod_cons, e, f, Int.mul_add, Int.mul_add, Int.mul_left_comm]; omega⟩
theorem Eqv.prod {p : Int} {a b c d : PL} (h : Eqv p a b) (g : Eqv p c d) : Eqv p (prodL a c) (prodL b d) :=
  (Eqv.prodR g).trans ((Eqv.of fun _ => totl_prod_comm).trans ((Eqv.prodR h).trans (Eqv.of fun _ => totl_prod_comm)))
def lpS (p : Int) : Setoid PL := ⟨Eqv p, ⟨fun _ => .refl, .symm, .trans⟩⟩
def LP (p : Int) : Type := Quotient (lpS p)
def clp (p : Int) (a : PL) : LP p := Quotient.mk (lpS p) a
theorem clp_eq {p : Int} {a b : PL} : clp p a = clp p b ↔ Eqv p a b := ⟨fun h => Quotient.exact h, fun h => Quotient.sound h⟩
def lpAdd {p : Int} : LP p → LP p → LP p := Quotient.lift₂ (fun a b => clp p (a ++ b)) fun _ _ _ _ h g => clp_eq.mpr (Eqv.app h g)
def lpMul {p : Int} : LP p → LP p → LP p := Quotient.lift₂ (fun a b => clp p (prodL a b)) fun _ _ _ _ h g => clp_eq.mpr (Eqv.prod h g)
def lpScl {p : Int} (n : Int) : LP p → LP p := Quotient.lift (fun a => clp p (scl n a)) fun _ _ h => clp_eq.mpr (Eqv.scl h)
def lpPow {p : Int} (a : LP p) : Nat → LP p
  | 0 => clp p [(0, 1)]
  | n + 1 => lpMul (lpPow a n) a
def cst (n : Int) : PL := [(0, n)]
theorem prod_one {a : PL} : ∀ o, totl (prodL a (cst 1)) o = totl a o := fun o => by
  rw [totl_prod_comm]
  show totl (prodL ((0, 1) :: []) a) o = _
  rw [totl_prod_cons]
  show 1 * totl a (o - 0) + 0 = _
  rw [Int.one_mul, Int.sub_zero, Int.add_zero]
theorem ind1 {p : Int} {P : LP p → Prop} (h : ∀ a, P (clp p a)) (x : LP p) : P x := Quotient.ind (motive := P) h x
theorem cst_add {m n : Int} (o : Int) : totl (cst m ++ cst n) o = totl (cst (m + n)) o := by
  show (if (0:Int) = o then m else 0) + ((if (0:Int) = o then n else 0) + 0) = (if (0:Int) = o then m + n else 0) + 0
  by_cases h : (0 : Int) = o
  · rw [if_pos h, if_pos h, if_pos h]; omega
  · rw [if_neg h, if_neg h, if_neg h]; omega
theorem cst_mul {n : Int} {a : PL} (o : Int) : totl (prodL (cst n) a) o = totl (scl n a) o := by
  show totl (prodL ((0, n) :: []) a) o = _
  rw [totl_prod_cons, totl_scl]
  show n * totl a (o - 0) + 0 = _
  rw [Int.sub_zero, Int.add_zero]
instance lpRing (p : Int) : Lean.Grind.CommRing (LP p) where
  add := lpAdd
  mul := lpMul
  natCast := ⟨fun n => clp p (cst n)⟩
  ofNat := fun n => ⟨clp p (cst n)⟩
  nsmul := ⟨fun n a => lpMul (clp p (cst n)) a⟩
  npow := ⟨fun a n => lpPow a n⟩
  neg := lpScl (-1)
  sub := fun a b => lpAdd a (lpScl (-1) b)
  intCast := ⟨fun n => clp p (cst n)⟩
  zsmul := ⟨fun n a => lpMul (clp p (cst n)) a⟩
  add_zero := ind1 fun a => clp_eq.mpr (.of fun o => by
    rw [totl_append]
    show totl a o + ((if (0:Int) = o then 0 else 0) + 0) = _
    by_cases h : (0 : Int) = o
    · rw [if_pos h]; omega
    · rw [if_neg h]; omega)
  add_comm := ind1 fun a => ind1 fun b => clp_eq.mpr (.of fun o => by rw [totl_append, totl_append]; omega)
  add_assoc := ind1 fun a => ind1 fun b => ind1 fun c => clp_eq.mpr (.of fun o => by rw [List.append_assoc])
  mul_assoc := ind1 fun a => ind1 fun b => ind1 fun c => clp_eq.mpr (.of fun o => totl_prod_assoc)
  mul_one := ind1 fun a => clp_eq.mpr (.of prod_one)
  one_mul := ind1 fun a => clp_eq.mpr (.of fun o => totl_prod_comm.trans (prod_one o))
  right_distrib := ind1 fun a => ind1 fun b => ind1 fun c => clp_eq.mpr (.of fun o => by rw [prodL_app])
  mul_zero := ind1 fun a => clp_eq.mpr (.of fun o => by
    show totl (prodL a (cst 0)) o = totl (cst 0) o
    rw [totl_prod_comm, cst_mul, totl_scl, Int.zero_mul]
    show 0 = (if (0:Int) = o then 0 else 0) + (0 : Int)
    by_cases h : (0 : Int) = o
    · rw [if_pos h]; rfl
    · rw [if_neg h]; rfl)
  left_distrib := ind1 fun a => ind1 fun b => ind1 fun c => clp_eq.mpr (.of fun o => by
    rw [totl_prod_comm, prodL_app, totl_append, totl_append, totl_prod_comm (a := b), totl_prod_comm (a := c)])
  zero_mul := ind1 fun a => clp_eq.mpr (.of fun o => by
    show totl (prodL (cst 0) a) o = totl (cst 0) o
    rw [cst_mul, totl_scl, Int.zero_mul]
    show 0 = (if (0:Int) = o then 0 else 0) + (0 : Int)
    by_cases h : (0 : Int) = o
    · rw [if_pos h]; rfl
    · rw [if_neg h]; rfl)
  pow_zero := fun a => rfl
  pow_succ := fun a n => rfl
  ofNat_succ := fun n => clp_eq.mpr (.of fun o => (cst_add (m := n) (n := 1) o).symm)
  ofNat_eq_natCast := fun n => rfl
  nsmul_eq_natCast_mul := fun n a => rfl
  neg_add_cancel := ind1 fun a => clp_eq.mpr (.of fun o => by
    rw [totl_append, totl_scl]
    show -1 * totl a o + totl a o = (if (0:Int) = o then 0 else 0) + 0
    by_cases h : (0 : Int) = o
    · rw [if_pos h]; omega
    · rw [if_neg h]; omega)
  sub_eq_add_neg := fun a b => rfl
  neg_zsmul := fun i => ind1 fun a => clp_eq.mpr (.of fun o => by
    show totl (prodL (cst (-i)) a) o = totl (scl (-1) (prodL (cst i) a)) o
    rw [cst_mul, totl_scl, totl_scl, cst_mul, totl_scl, ← Int.mul_assoc, Int.neg_one_mul])
  zsmul_natCast_eq_nsmul := fun n a => rfl
  intCast_ofNat := fun n => rfl
  intCast_neg := fun i => clp_eq.mpr (.of fun o => by
    show totl (cst (-i)) o = totl (scl (-1) (cst i)) o
    rw [totl_scl]
    show (if (0:Int) = o then -i else 0) + 0 = -1 * ((if (0:Int) = o then i else 0) + 0)
    by_cases h : (0 : Int) = o
    · rw [if_pos h, if_pos h]; omega
    · rw [if_neg h, if_neg h]; omega)
  mul_comm := ind1 fun a => ind1 fun b => clp_eq.mpr (.of fun o => totl_prod_comm)
/-! ### its words -/
section
variable {p : Int} {a b : PL}
theorem clp_app : clp p (a ++ b) = clp p a + clp p b := rfl
theorem clp_prod : clp p (prodL a b) = clp p a * clp p b := rfl
theorem clp_scl : clp p (scl (-1) a) = -clp p a := rfl
theorem clp_one : clp p [(0, 1)] = 1 := rfl
theorem clp_nil : clp p [] = 0 := clp_eq.mpr (.of fun o => by
  show 0 = (if (0:Int) = o then 0 else 0) + (0 : Int)
  by_cases h : (0 : Int) = o
  · rw [if_pos h]; rfl
  · rw [if_neg h]; rfl)
theorem clp_char : clp p (cst p) = 0 := by
  rw [← clp_nil]
  refine clp_eq.mpr fun o => ?_
  show ∃ z, (if (0:Int) = o then p else 0) + 0 = 0 + p * z
  by_cases h : (0 : Int) = o
  · exact ⟨1, by rw [if_pos h]; omega⟩
  · exact ⟨0, by rw [if_neg h]; omega⟩
end
theorem clp_num {n : Nat} : clp (n : Int) (cst n) = (OfNat.ofNat n : LP n) := rfl
theorem seven0 : (7 : LP 7) = 0 := clp_char (p := 7)
theorem five0 : (5 : LP 5) = 0 := clp_char (p := 5)
theorem three0 : (3 : LP 3) = 0 := clp_char (p := 3)
theorem two0 : (2 : LP 2) = 0 := clp_char (p := 2)
theorem frob7 (a b : LP 7) : (a + b) ^ 7 = a ^ 7 + b ^ 7 := by have := seven0; grind
theorem frob5 (a b : LP 5) : (a + b) ^ 5 = a ^ 5 + b ^ 5 := by have := five0; grind
theorem frob3 (a b : LP 3) : (a + b) ^ 3 = a ^ 3 + b ^ 3 := by have := three0; grind
theorem frob2 (a b : LP 2) : (a + b) ^ 2 = a ^ 2 + b ^ 2 := by have := two0; grind
end SR
set_option maxRecDepth 100000
set_option maxHeartbeats 4000000
namespace SR
section
variable {p : Int}
theorem coll_eqv (hp : 0 < p) {a b : PL} (h : clp p a = clp p b) : coll p a = coll p b := coll_tot hp (clp_eq.mp h)
theorem totl_nd {o : Int} : ∀ {a : PL}, (a.map (·.1)).Nodup → totl a o = (getI a o).getD 0
  | [], _ => rfl
  | q :: a, h => by
    rw [List.map_cons, List.nodup_cons] at h
    rw [totl_cons, totl_nd h.2]
    unfold getI
    rw [List.find?_cons]
    by_cases e : q.1 = o
    · rw [if_pos e, decide_eq_true e]
      have hn : a.find? (fun r => decide (r.1 = o)) = none := List.find?_eq_none.mpr fun r hr hd => h.1 (by rw [e, ← of_decide_eq_true hd]; exact List.mem_map_of_mem hr)
      rw [hn]
      show q.2 + 0 = q.2
      omega
    · rw [if_neg e, decide_eq_false e]
      exact Int.zero_add _
theorem clp_coll (hp : 0 < p) {a : PL} : clp p (coll p a) = clp p a := clp_eq.mpr fun o => by
  have e : totl (coll p a) o = totl a o % p := by rw [totl_nd coll_nd, getI_coll, coef_is hp]
  refine ⟨-(totl a o / p), ?_⟩
  have := Int.emod_add_mul_ediv (totl a o) p
  rw [e, Int.mul_neg]
  omega
theorem coll_coll (hp : 0 < p) {a : PL} : coll p (coll p a) = coll p a := coll_eqv hp (clp_coll hp)
def Nrm (p : Int) (m : PL) : Prop := coll p m = m
theorem nrm_coll (hp : 0 < p) {a : PL} : Nrm p (coll p a) := coll_coll hp
/-! ### powers -/
section
variable {R : Type} [Lean.Grind.CommRing R]
theorem pow_mul_dist (a b : R) : ∀ n : Nat, (a * b) ^ n = a ^ n * b ^ n
  | 0 => by rw [Lean.Grind.Semiring.pow_zero, Lean.Grind.Semiring.pow_zero, Lean.Grind.Semiring.pow_zero, Lean.Grind.Semiring.mul_one]
  | n + 1 => by
    have ih := pow_mul_dist a b n
    rw [Lean.Grind.Semiring.pow_succ, Lean.Grind.Semiring.pow_succ, Lean.Grind.Semiring.pow_succ, ih]
    grind
theorem pow_add' (a : R) (m : Nat) : ∀ n : Nat, a ^ (m + n) = a ^ m * a ^ n
  | 0 => by rw [Lean.Grind.Semiring.pow_zero, Lean.Grind.Semiring.mul_one]; rfl
  | n + 1 => by
    rw [Lean.Grind.Semiring.pow_succ, ← Nat.add_assoc, Lean.Grind.Semiring.pow_succ, pow_add' a m n, Lean.Grind.Semiring.mul_assoc]
theorem pow_pow (a : R) (m : Nat) : ∀ n : Nat, (a ^ m) ^ n = a ^ (m * n)
  | 0 => by rw [Nat.mul_zero, Lean.Grind.Semiring.pow_zero, Lean.Grind.Semiring.pow_zero]
  | n + 1 => by rw [Lean.Grind.Semiring.pow_succ, pow_pow a m n, Nat.mul_succ, pow_add']
theorem one_pow' : ∀ n : Nat, (1 : R) ^ n = 1
  | 0 => Lean.Grind.Semiring.pow_zero _
  | n + 1 => by rw [Lean.Grind.Semiring.pow_succ, one_pow' n, Lean.Grind.Semiring.mul_one]
end
def powL (p : Int) (a : PL) : Nat → PL
  | 0 => [(0, 1)]
  | n + 1 => coll p (prodL (powL p a n) a)
theorem clp_pow (hp : 0 < p) {a : PL} : ∀ {n : Nat}, clp p (powL p a n) = clp p a ^ n
  | 0 => (Lean.Grind.Semiring.pow_zero _).symm
  | n + 1 => by
    show clp p (coll p (prodL (powL p a n) a)) = _
    rw [clp_coll hp, clp_prod, clp_pow hp, Lean.Grind.Semiring.pow_succ]
def str (n : Int) (a : PL) : PL := a.map fun q => (n * q.1, q.2)
theorem clp_mono {o c : Int} : clp p [(o, c)] = clp p [(o, 1)] * clp p (cst c) := by
  rw [← clp_prod]
  refine clp_eq.mpr (.of fun x => ?_)
  show totl [(o, c)] x = totl (prodL ((o, 1) :: []) (cst c)) x
  rw [totl_prod_cons]
  show (if o = x then c else 0) + 0 = 1 * ((if (0:Int) = x - o then c else 0) + 0) + 0
  by_cases h : o = x
  · rw [if_pos h, if_pos (by omega)]; omega
  · rw [if_neg h, if_neg (by omega)]; omega
theorem clp_place {o : Int} : ∀ n : Nat, clp p [(o, 1)] ^ n = clp p [((n : Int) * o, 1)]
  | 0 => by rw [Lean.Grind.Semiring.pow_zero, Int.natCast_zero, Int.zero_mul]; rfl
  | n + 1 => by
    rw [Lean.Grind.Semiring.pow_succ, clp_place n, ← clp_prod]
    show clp p [((n : Int) * o + o, 1 * 1)] = _
    rw [show ((n + 1 : Nat) : Int) * o = (n : Int) * o + o by rw [Int.natCast_add, Int.add_mul]; show _ + 1 * o = _; rw [Int.one_mul]]
    rfl
section
variable {P : Nat} (frob : ∀ a b : LP (P : Int), (a + b) ^ P = a ^ P + b ^ P) (hP : 0 < P)
include frob hP
theorem fermN : ∀ n : Nat, clp (P : Int) (cst n) ^ P = clp (P : Int) (cst n)
  | 0 => by
    show (0 : LP (P : Int)) ^ P = 0
    cases P with
    | zero => exact absurd hP (by decide)
    | succ k => rw [Lean.Grind.Semiring.pow_succ, Lean.Grind.Semiring.mul_zero]
  | n + 1 => by
    have e : clp (P : Int) (cst ((n + 1 : Nat) : Int)) = clp (P : Int) (cst n) + 1 := clp_eq.mpr (.of fun o => (cst_add (m := n) (n := 1) o).symm)
    rw [e, frob, fermN n, one_pow']
theorem ferm (c : Int) : clp (P : Int) (cst c) ^ P = clp (P : Int) (cst c) := by
  have hp : (0 : Int) < P := by omega
  have e : clp (P : Int) (cst c) = clp (P : Int) (cst ((c % P).toNat : Int)) := by
    refine clp_eq.mpr fun o => ?_
    show ∃ z, (if (0:Int) = o then c else 0) + 0 = (if (0:Int) = o then ((c % P).toNat : Int) else 0) + 0 + P * z
    have h1 := Int.emod_nonneg c (show (P : Int) ≠ 0 by omega)
    have h2 := Int.emod_add_mul_ediv c P
    by_cases h : (0 : Int) = o
    · refine ⟨c / P, ?_⟩
      rw [if_pos h, if_pos h]
      omega
    · exact ⟨0, by rw [if_neg h, if_neg h]; omega⟩
  rw [e, fermN frob hP]
theorem clp_str : ∀ a : PL, clp (P : Int) (str P a) = clp (P : Int) a ^ P
  | [] => by
    show clp (P : Int) [] = clp (P : Int) [] ^ P
    rw [clp_nil]
    cases P with
    | zero => exact absurd hP (by decide)
    | succ k => rw [Lean.Grind.Semiring.pow_succ, Lean.Grind.Semiring.mul_zero]
  | q :: a => by
    show clp (P : Int) ([((P : Int) * q.1, q.2)] ++ str P a) = clp (P : Int) ([q] ++ a) ^ P
    rw [clp_app, clp_app, frob, clp_str a, clp_mono, show clp (P : Int) [q] = clp (P : Int) [(q.1, 1)] * clp (P : Int) (cst q.2) from clp_mono (o := q.1) (c := q.2), pow_mul_dist, clp_place, ferm frob hP]
end
def strK (p : Int) (a : PL) : Nat → PL
  | 0 => a
  | k + 1 => coll p (str p (strK p a k))
theorem clp_strK {P : Nat} (frob : ∀ a b : LP (P : Int), (a + b) ^ P = a ^ P + b ^ P) (hP : 0 < P) {a : PL} : ∀ k : Nat, clp (P : Int) (strK P a k) = clp (P : Int) a ^ (P ^ k)
  | 0 => by
    show clp (P : Int) a = clp (P : Int) a ^ 1
    rw [Lean.Grind.Semiring.pow_succ, Lean.Grind.Semiring.pow_zero, Lean.Grind.Semiring.one_mul]
  | k + 1 => by
    show clp (P : Int) (coll P (str P (strK P a k))) = _
    rw [clp_coll (by omega), clp_str frob hP, clp_strK frob hP k, pow_pow, Nat.pow_succ]
theorem pow_step {P : Nat} (frob : ∀ a b : LP (P : Int), (a + b) ^ P = a ^ P + b ^ P) (hP : 0 < P) {a : PL} {j k : Nat} : coll P (prodL (powL P a j) (strK P a k)) = powL P a (j + P ^ k) := by
  have hp : (0 : Int) < P := by omega
  have hpk : 0 < P ^ k := Nat.pow_pos hP
  obtain ⟨n, hn⟩ : ∃ n, j + P ^ k = n + 1 := ⟨j + P ^ k - 1, by omega⟩
  rw [hn]
  show _ = coll P (prodL (powL P a n) a)
  refine coll_eqv hp ?_
  rw [clp_prod, clp_prod, clp_pow hp, clp_pow hp, clp_strK frob hP, ← pow_add', hn, Lean.Grind.Semiring.pow_succ]
/-- for the primes of the document -/
theorem pow_step_p {p : Int} (h' : p = 2 ∨ p = 3 ∨ p = 5 ∨ p = 7) {a : PL} {j k : Nat} : coll p (prodL (powL p a j) (strK p a k)) = powL p a (j + p.toNat ^ k) := by
  rcases h' with rfl | rfl | rfl | rfl
  · exact pow_step (P := 2) frob2 (by decide)
  · exact pow_step (P := 3) frob3 (by decide)
  · exact pow_step (P := 5) frob5 (by decide)
  · exact pow_step (P := 7) frob7 (by decide)
end
end SR
set_option maxRecDepth 100000
set_option maxHeartbeats 4000000
namespace SR
/-- all places within B -/
def Bnd (B : Int) (a : PL) : Prop := ∀ q ∈ a, -B ≤ q.1 ∧ q.1 ≤ B
theorem Bnd.mono {B B' : Int} {a : PL} (h : Bnd B a) (hb : B ≤ B') : Bnd B' a := fun q hq => by
  have := h q hq
  omega
theorem Bnd.app {B : Int} {a b : PL} (h : Bnd B a) (g : Bnd B b) : Bnd B (a ++ b) := fun q hq => (List.mem_append.mp hq).elim (h q) (g q)
theorem Bnd.prod {B B' : Int} {a b : PL} (h : Bnd B a) (g : Bnd B' b) : Bnd (B + B') (prodL a b) := fun q hq => by
  obtain ⟨x, hx, hq⟩ := List.mem_flatMap.mp hq
  obtain ⟨y, hy, rfl⟩ := List.mem_map.mp hq
  have h1 := h x hx
  have h2 := g y hy
  show -(B + B') ≤ x.1 + y.1 ∧ x.1 + y.1 ≤ B + B'
  omega
theorem mem_put {m : PL} {o c x : Int} (h : x ∈ (putI m o c).map (·.1)) : x ∈ m.map (·.1) ∨ x = o := by
  rw [keys_put] at h
  by_cases e : (m.any fun q => decide (q.1 = o)) = true
  · rw [if_pos e] at h
    exact Or.inl h
  · rw [if_neg e] at h
    rcases List.mem_append.mp h with h | h
    · exact Or.inl h
    · exact Or.inr (List.mem_singleton.mp h)
theorem mem_sums {p x : Int} : ∀ {rows m : PL}, x ∈ (rows.foldl (step p) m).map (·.1) → x ∈ m.map (·.1) ∨ x ∈ rows.map (·.1)
  | [], m, h => Or.inl h
  | q :: rows, m, h => by
    rcases mem_sums (rows := rows) (m := step p m q) h with h | h
    · rcases mem_put h with h | h
      · exact Or.inl h
      · exact Or.inr (by rw [h]; exact List.mem_cons_self ..)
    · exact Or.inr (List.mem_cons_of_mem _ h)
theorem mem_coll {p : Int} {a : PL} {q : Int × Int} (h : q ∈ coll p a) : q.1 ∈ a.map (·.1) := by
  obtain ⟨o, ho, rfl⟩ := List.mem_map.mp h
  have h2 := srt_perm.mem_iff.mp (List.mem_filter.mp ho).1
  rcases mem_sums h2 with h3 | h3
  · cases h3
  · exact h3
theorem Bnd.coll {p B : Int} {a : PL} (h : Bnd B a) : Bnd B (coll p a) := fun q hq => by
  obtain ⟨r, hr, e⟩ := List.mem_map.mp (mem_coll hq)
  have := h r hr
  rw [← e]
  exact this
theorem len_range : ∀ {l : List Int} {lo hi : Int}, l.Pairwise (· ≤ ·) → l.Nodup → (∀ x ∈ l, lo ≤ x ∧ x ≤ hi) → l = [] ∨ (l.length : Int) ≤ hi - lo + 1
  | [], _, _, _, _, _ => Or.inl rfl
  | x :: l, lo, hi, h1, h2, h3 => by
    rw [List.pairwise_cons] at h1
    rw [List.nodup_cons] at h2
    have hx := h3 x (List.mem_cons_self ..)
    have ih := len_range (l := l) (lo := x + 1) (hi := hi) h1.2 h2.2 fun y hy => by
      have a := h1.1 y hy
      have b : x ≠ y := fun e => h2.1 (e ▸ hy)
      have c := h3 y (List.mem_cons_of_mem _ hy)
      omega
    right
    rw [List.length_cons]
    rcases ih with rfl | ih
    · show ((0 + 1 : Nat) : Int) ≤ _
      omega
    · omega
theorem len_coll {p B : Int} {a : PL} (h : Bnd B a) (hB : 0 ≤ B) : ((coll p a).length : Int) ≤ 2 * B + 1 := by
  have e : (coll p a).length = ((coll p a).map (·.1)).length := (List.length_map _).symm
  have hb := Bnd.coll (p := p) h
  have hs : ((coll p a).map (·.1)).Pairwise (· ≤ ·) := by
    unfold coll
    rw [nd_map_fst]
    exact srt_pair.filter _
  rcases len_range (l := (coll p a).map (·.1)) (lo := -B) (hi := B) hs coll_nd (fun x hx => by
    obtain ⟨q, hq, rfl⟩ := List.mem_map.mp hx
    exact hb q hq) with h0 | h0
  · rw [e, h0]
    show (0 : Int) ≤ _
    omega
  · rw [e]
    omega
theorem len_prod {a b : PL} : (prodL a b).length = a.length * b.length := by
  induction a with
  | nil => exact (Nat.zero_mul _).symm
  | cons q a ih =>
    rw [prodL_cons, List.length_append, ih, List.length_cons, Nat.succ_mul]
    show (b.map _).length + _ = _
    rw [List.length_map]
    omega
theorem bnd_pow {p B : Int} {a : PL} (h : Bnd B a) (hB : 0 ≤ B) : ∀ n : Nat, Bnd (n * B) (powL p a n)
  | 0 => fun q hq => by
    rw [List.mem_singleton.mp hq]
    show -(((0 : Nat) : Int) * B) ≤ 0 ∧ (0 : Int) ≤ ((0 : Nat) : Int) * B
    rw [Int.natCast_zero, Int.zero_mul]
    omega
  | n + 1 => by
    have e : ((n + 1 : Nat) : Int) * B = n * B + B := by rw [Int.natCast_add, Int.add_mul]; show _ + 1 * B = _; rw [Int.one_mul]
    rw [e]
    exact Bnd.coll (Bnd.prod (bnd_pow h hB n) h)
theorem len_pow {p B : Int} {a : PL} (h : Bnd B a) (hB : 0 ≤ B) {n : Nat} : ((powL p a n).length : Int) ≤ 2 * (n * B) + 1 := by
  cases n with
  | zero => show (1 : Int) ≤ _; rw [Int.natCast_zero, Int.zero_mul]; omega
  | succ n =>
    have e : ((n + 1 : Nat) : Int) * B = n * B + B := by rw [Int.natCast_add, Int.add_mul]; show _ + 1 * B = _; rw [Int.one_mul]
    have := len_coll (p := p) (Bnd.prod (bnd_pow (p := p) h hB n) h) (by have := Int.mul_nonneg (Int.natCast_nonneg n) hB; omega)
    rw [e]
    exact this
theorem len_strK {p : Int} {a : PL} : ∀ {k : Nat}, (strK p a k).length ≤ a.length
  | 0 => Nat.le_refl _
  | k + 1 => by
    have h1 := coll_len (p := p) (rows := str p (strK p a k))
    have h2 : (str p (strK p a k)).length = (strK p a k).length := List.length_map _
    have h3 := len_strK (p := p) (a := a) (k := k)
    show (coll p (str p (strK p a k))).length ≤ _
    omega
end SR
set_option maxRecDepth 100000
set_option maxHeartbeats 4000000
namespace SR
open PySem PySem.Spec PyProof.Rows L2 Evl
section
variable {ω : Type} {K : PySem.W.Frag} {O : OI ω} {G H : Hp} {te : TE} {σ : L2.St}
/-- two fors, no tests -/
theorem ed_lc2 {wi wi1 : TI} {g g1 : TG} {vs vs1 : List Nat} {ds es : List (D ω)} (m : D ω → D ω → D ω) (hs : Src K O wi σ G ds) (hz : ds.length * es.length ≤ 40000)
    (body : ∀ (i : Nat) (d : D ω) (x : V) (Gi Hi : Hp), ds[i]? = some d → Ex G Gi → Ex Gi Hi → At K O Gi d x → ∀ Q : L2.St → Hp → Prop,
      (∀ σ2 H2, Ex Hi H2 → wipe σ2 vs = wipe σ vs → Src K O wi1 σ2 Gi es →
        (∀ (j : Nat) (c : D ω) (y : V) (Gj Hj : Hp), es[j]? = some c → Ex Gi Gj → Ex Gj Hj → At K O Gj c y → ∀ Q' : L2.St → Hp → Prop,
          (∀ σ3 H3, Ex Hj H3 → wipe σ3 vs1 = wipe σ2 vs1 → EvD K O te σ3 Gj (m d c) → Q' σ3 H3) → g1 y (wipe σ2 vs1) Hj Q') → Q σ2 H2) → g x (wipe σ vs) Hi Q) :
    EvD K O (tLc2 wi g tYes wi1 g1 tYes te vs vs1) σ G (.lst (ds.flatMap fun d => es.map (m d))) := fun H1 e Q k => by
  refine hs H1 e _ fun J Gd Y G0 H0 l0 w hG yl => ?_
  intro Dl hD
  refine ⟨fun i n H => n = ds.length - i ∧ i ≤ ds.length ∧ ∃ Gi us, Le G0 H0 Gi H ∧ H Dl = some (.lst us) ∧ Gi Dl = none ∧ AtL K O Gi ((ds.take i).flatMap fun d => es.map (m d)) us, ⟨ds.length, by omega, Nat.zero_le _, G0, [], Le.newM l0.e hD, upd_same, none_of_ex l0.e hD, atL_nil.mpr rfl⟩, ?_⟩
  rintro i n H ⟨rfl, hi, Gi, us, l, hu, gn, as⟩
  have q := hG H (l.g.trans l.e)
  by_cases hlt : i < ds.length
  · refine .inr ⟨w.goes i H hlt q, fun H => ∃ Gi us, Le G0 H0 Gi H ∧ H Dl = some (.lst us) ∧ Gi Dl = none ∧ AtL K O Gi ((ds.take (i + 1)).flatMap fun d => es.map (m d)) us, fun H' p' => ⟨ds.length - (i + 1), by omega, rfl, hlt, p'⟩, fun x Hx yx => ?_⟩
    obtain ⟨d, Gi', hd, l', ad⟩ := yl i Gi H x Hx l.g l.e hlt (w.yields i H x Hx hlt q yx)
    have tk := take_snoc hd
    have gn' : Gi' Dl = none := l'.gnone gn (by rw [hu]; exact fun z => nomatch z)
    have hu' : Hx Dl = some (.lst us) := l'.h Dl _ hu
    have lt : Le G0 H0 Gi' Hx := l.trans l'
    refine body i d x Gi' Hx hd (l0.g.trans lt.g) l'.e ad _ fun σ2 H20 e20 hw hs1 hb1 => ⟨hw, ?_⟩
    refine et_yes (G := Gi') H20 (l'.e.trans e20) _ fun H2 e21 => ?_
    have e2 := e20.trans e21
    rw [if_pos rfl]
    refine hs1 H2 (l'.e.trans e2) _ fun J1 Gd1 Y1 G3 H3 l3 w1 hG1 yl1 => ?_
    have gn3 : G3 Dl = none := l3.gnone gn' (by rw [e2 Dl _ hu']; exact fun z => nomatch z)
    have hu3 : H3 Dl = some (.lst us) := l3.h Dl _ (e2 Dl _ hu')
    have lt3 : Le G0 H0 G3 H3 := (lt.trans (Le.heap l'.e e2)).trans l3
    refine ⟨fun j n H => n = es.length - j ∧ j ≤ es.length ∧ ∃ Gj us, Le G0 H0 Gj H ∧ Ex G3 Gj ∧ H Dl = some (.lst us) ∧ Gj Dl = none ∧ AtL K O Gj (((ds.take i).flatMap fun d => es.map (m d)) ++ (es.take j).map (m d)) us, ⟨es.length, by omega, Nat.zero_le _, G3, us, lt3, Ex.refl _, hu3, gn3, by rw [List.take_zero, List.map_nil, List.append_nil]; exact as.mono (l'.g.trans l3.g)⟩, ?_⟩
    rintro j n H ⟨rfl, hj, Gj, us1, lj, ej, huj, gnj, asj⟩
    have qj := hG1 H (ej.trans lj.e)
    by_cases hjl : j < es.length
    · refine .inr ⟨w1.goes j H hjl qj, fun H => ∃ Gj us, Le G0 H0 Gj H ∧ Ex G3 Gj ∧ H Dl = some (.lst us) ∧ Gj Dl = none ∧ AtL K O Gj (((ds.take i).flatMap fun d => es.map (m d)) ++ (es.take (j + 1)).map (m d)) us, fun H' p' => ⟨es.length - (j + 1), by omega, rfl, hjl, p'⟩, fun y Hy yy => ?_⟩
      obtain ⟨c, Gj', hc, lj', ac⟩ := yl1 j Gj H y Hy ej lj.e hjl (w1.yields j H y Hy hjl qj yy)
      have gnj' : Gj' Dl = none := lj'.gnone gnj (by rw [huj]; exact fun z => nomatch z)
      have huj' : Hy Dl = some (.lst us1) := lj'.h Dl _ huj
      have ltj : Le G0 H0 Gj' Hy := lj.trans lj'
      refine hb1 j c y Gj' Hy hc ((l3.g.trans ej).trans lj'.g) lj'.e ac _ fun σ3 H50 e50 hw1 he => ⟨hw1, ?_⟩
      refine et_yes (G := Gj') H50 (lj'.e.trans e50) _ fun H5 e51 => ?_
      have e5 := e50.trans e51
      rw [if_pos rfl]
      refine he H5 (lj'.e.trans e5) _ fun u G6 H6 l6 a6 => ?_
      have hu6 : H6 Dl = some (.lst us1) := l6.h Dl _ (e5 Dl _ huj')
      have gn6 : G6 Dl = none := l6.gnone gnj' (by rw [e5 Dl _ huj']; exact fun z => nomatch z)
      have ul : us1.length < 40000 := by
        have h1 := asj.len
        have h2 : ∀ l : List (D ω), (l.flatMap fun d => es.map (m d)).length = l.length * es.length := fun l => by
          induction l with
          | nil => exact (Nat.zero_mul _).symm
          | cons a l ih => rw [List.flatMap_cons, List.length_append, ih, List.length_cons, List.length_map, Nat.succ_mul]; omega
        rw [List.length_append, h2, List.length_map, List.length_take, List.length_take] at h1
        have h3 : (i + 1) * es.length ≤ ds.length * es.length := Nat.mul_le_mul_right _ (by omega)
        rw [Nat.succ_mul] at h3
        have h4 : min i ds.length = i := by omega
        rw [h4] at h1
        omega
      refine ⟨us1, hu6, sz_lt (by omega), G6, us1 ++ [u], ((ltj.trans (Le.heap lj'.e e5)).trans l6).mut hD gn6, (ej.trans lj'.g).trans l6.g, upd_same, gn6, ?_⟩
      rw [take_snoc hc, List.map_append, ← List.append_assoc]
      exact (asj.mono (lj'.g.trans l6.g)).app (AtL.one a6)
    · have e4 : j = es.length := by omega
      subst e4
      refine .inl ⟨w1.stops H qj, Gj, us1, lj, huj, gnj, ?_⟩
      rw [tk, List.flatMap_append, List.flatMap_cons, List.flatMap_nil, List.append_nil]
      rw [List.take_length] at asj
      exact asj
  · have e4 : i = ds.length := by omega
    subst e4
    refine .inl ⟨w.stops H q, ?_⟩
    rw [List.take_length] at as
    exact k (.ref Dl) (upd Gi Dl (.lst us)) H (l0.trans (Le.fix l0.e l hD hu)) (at_lst.mpr ⟨Dl, us, rfl, upd_same, as.mono (Ex.new gn)⟩)
end
section
variable {X : Cx} {tg e : Expr} {te : TE}
theorem pi_tupK (K : PySem.W.Frag) (h : PE X e te) (hK : X.K = K := by rfl) : PI X tg e (iTup K te) := by
  subst hK
  exact pi_tup h
theorem pi_listK (K : PySem.W.Frag) (h : PE X e te) (hK : X.K = K := by rfl) : PI X tg e (iList K te) := by
  subst hK
  exact pi_list h
end
end SR
set_option maxRecDepth 100000
set_option maxHeartbeats 4000000
namespace SR
open PySem PySem.Spec PyProof.Rows L2 Evl
def topS (i : Nat) : Stmt := PySem.Challenge.pw_seenrows_k15_tables_made.main.body.getD i (.Pass ⟨0, 0, 0, 0⟩)
section
variable {ω : Type} {P : Program} {w : World} {K : PySem.W.Frag} {mg : Str → Option Value} {base : Heap} {O : OI ω} {Ty : ω → Value}
/-! ### is_int -/
def rIsInt : List (D ω) → D ω → Prop := fun ds r => ∃ d, ds = [d] ∧ r = .bl (dInt d)
abbrev is_int_S : Stmt := topS 15
abbrev is_int_N : List Str := ["thing"]
theorem is_int_sc : FnScope is_int_N ["thing"] (defScope is_int_S) := ⟨rfl, rfl, rfl, by decide +kernel, rfl, by decide +kernel, by decide +kernel⟩
theorem ok_is_int {f : Addr} {fd : FuncData} (F : Fun K "is_int" "is_int" is_int_S f fd) (B : Bi mg) (OK : OT K O Ty) : FnOk P w K mg base CX0 1 f fd ["thing"] (SpD K O rIsInt) := by
  refine F.ok is_int_sc (fun vs H Q E h => ?_) (fun cdv A outer s H vs Q E hr h => ?_)
  · obtain ⟨G, ds, d, e, as, ⟨d0, rfl, rfl⟩, k⟩ := h
    exact as.len
  · obtain ⟨G, ds, d, e, as, ⟨d0, rfl, rfl⟩, k⟩ := h
    obtain ⟨v, r, rfl, a, n⟩ := atL_cons.mp as
    obtain rfl := atL_nil.mp n
    refine ⟨_, (pss_one (ps_ret (pe_and (pe_callB (call_isiK' K) (by rfl) B.isinstance (by decide +kernel) (pa_cons (pv 0) (pa_cons (pe_bltn (v := .ty "int") (by rfl) B.int (by decide +kernel) rfl) pa_nil))) (pe_one (pe_not (pe_callB (call_isiK' K) (by rfl) B.isinstance (by decide +kernel) (pa_cons (pv 0) (pa_cons (pe_bltn (v := .ty "bool") (by rfl) B.bool (by decide +kernel) rfl) pa_nil)))))))), ?_⟩
    exact s_retD (ed_of (ev_is (ev_andV (isi_int OK (ed_var (i := 0) rfl a)) fun _ => ev_notV (isi_bool OK (ed_var (i := 0) rfl a))) (by cases d0 <;> rfl)) (at_bl.mpr rfl)) e k
/-! ### is_list -/
def rIsList : List (D ω) → D ω → Prop := fun ds r => ∃ d, ds = [d] ∧ r = .bl (dSeq d)
abbrev is_list_S : Stmt := topS 16
abbrev is_list_N : List Str := ["thing"]
theorem is_list_sc : FnScope is_list_N ["thing"] (defScope is_list_S) := ⟨rfl, rfl, rfl, by decide +kernel, rfl, by decide +kernel, by decide +kernel⟩
theorem ok_is_list {f : Addr} {fd : FuncData} (F : Fun K "is_list" "is_list" is_list_S f fd) (B : Bi mg) (OK : OT K O Ty) : FnOk P w K mg base CX0 1 f fd ["thing"] (SpD K O rIsList) := by
  refine F.ok is_list_sc (fun vs H Q E h => ?_) (fun cdv A outer s H vs Q E hr h => ?_)
  · obtain ⟨G, ds, d, e, as, ⟨d0, rfl, rfl⟩, k⟩ := h
    exact as.len
  · obtain ⟨G, ds, d, e, as, ⟨d0, rfl, rfl⟩, k⟩ := h
    obtain ⟨v, r, rfl, a, n⟩ := atL_cons.mp as
    obtain rfl := atL_nil.mp n
    refine ⟨_, (pss_one (ps_ret (pe_callB (call_isiTK K) (by rfl) B.isinstance (by decide +kernel) (pa_cons (pv 0) (pa_cons (pe_tup (pa_cons (pe_bltn (v := .ty "list") (by rfl) B.list (by decide +kernel) rfl) (pa_cons (pe_bltn (v := .ty "tuple") (by rfl) B.tuple (by decide +kernel) rfl) pa_nil))) pa_nil))))), ?_⟩
    exact s_retD (ed_of (isi_seq OK (ed_var rfl a)) (at_bl.mpr rfl)) e k
/-! ### is_prime -/
def primes : List Int := [2, 3, 5, 7]
def dPrime : D ω → Bool | .int i => primes.contains i | _ => false
def rIsPrime : List (D ω) → D ω → Prop := fun ds r => ∃ d, ds = [d] ∧ r = .bl (dPrime d)
abbrev is_prime_S : Stmt := topS 17
abbrev is_prime_N : List Str := ["thing"]
theorem is_prime_sc : FnScope is_prime_N ["thing"] (defScope is_prime_S) := ⟨rfl, rfl, rfl, by decide +kernel, rfl, by decide +kernel, by decide +kernel⟩
theorem ok_is_prime {f a_PRIMES : Addr} {fd : FuncData} (F : Fun K "is_prime" "is_prime" is_prime_S f fd) (g_PRIMES : mg "PRIMES" = some (.ref a_PRIMES)) (pr : ∀ H, SqT K H a_PRIMES (primes.map V.int)) (h_is_int : DefOk P w K mg base 1 "is_int" ["thing"] (SpD K O rIsInt)) :
    FnOk P w K mg base CX0 2 f fd ["thing"] (SpD K O rIsPrime) := by
  refine F.ok is_prime_sc (fun vs H Q E h => ?_) (fun cdv A outer s H vs Q E hr h => ?_)
  · obtain ⟨G, ds, d, e, as, ⟨d0, rfl, rfl⟩, k⟩ := h
    exact as.len
  · obtain ⟨G, ds, d, e, as, ⟨d0, rfl, rfl⟩, k⟩ := h
    obtain ⟨v, r, rfl, a, n⟩ := atL_cons.mp as
    obtain rfl := atL_nil.mp n
    refine ⟨_, (pss_one (ps_ret (pe_and (pe_callD h_is_int (hr.mono (by first | decide | exact Nat.le_refl _)) (pa_cons (pv 0) pa_nil)) (pe_one (pe_cmpR op_in_seq (pv 0) (pe_glob (v := .ref a_PRIMES) rfl g_PRIMES rfl) rfl))))), ?_⟩
    refine s_retD (ed_of (v := .bl (dPrime d0)) (ev_is (ev_andV (a := dInt d0) (b := dPrime d0) (ev_bl (ed_call (eda_cons (ed_var (i := 0) rfl a) eda_nil) ⟨d0, rfl, rfl⟩)) fun hb => ?_) (by cases d0 <;> rfl)) (at_bl.mpr rfl)) e k
    cases d0 with
    | int i =>
      rw [at_int] at a
      subst a
      refine ev_is (ev_op (ev_var (i := 0) rfl) ev_c (rv_isT (pr G) rfl rfl)) ?_
      show V.bl (inV (.int i) (primes.map V.int)) = V.bl (primes.contains i)
      rw [inV_int]
    | _ => cases hb
/-! ### is_term -/
def dTerm : D ω → Bool
  | .lst [.int _, .int _] => true
  | .tup [.int _, .int _] => true
  | _ => false
def rIsTerm : List (D ω) → D ω → Prop := fun ds r => ∃ d, ds = [d] ∧ r = .bl (dTerm d)
theorem dTerm_of {d : D ω} (h : dTerm d = true) : ∃ i j, d = .lst [.int i, .int j] ∨ d = .tup [.int i, .int j] := by
  unfold dTerm at h
  split at h
  · exact ⟨_, _, Or.inl rfl⟩
  · exact ⟨_, _, Or.inr rfl⟩
  · cases h
theorem dItem_of {d : D ω} (hs : dSeq d = true) (hl : dLen d = 2) : ∃ a b, dItem d 0 = some a ∧ dItem d 1 = some b ∧ (dInt a && dInt b) = dTerm d := by
  cases d with
  | lst l =>
    match l, hl with
    | [a, b], _ => exact ⟨a, b, rfl, rfl, by cases a <;> cases b <;> rfl⟩
  | tup l =>
    match l, hl with
    | [a, b], _ => exact ⟨a, b, rfl, rfl, by cases a <;> cases b <;> rfl⟩
  | _ => cases hs
theorem dTerm_no {d : D ω} (h : dSeq d = true → dLen d ≠ 2) : dTerm d = false := by
  cases q : dTerm d with
  | false => rfl
  | true =>
    obtain ⟨i, j, rfl | rfl⟩ := dTerm_of q
    · exact absurd rfl (h rfl)
    · exact absurd rfl (h rfl)
abbrev is_term_S : Stmt := topS 18
abbrev is_term_N : List Str := ["thing"]
theorem is_term_sc : FnScope is_term_N ["thing"] (defScope is_term_S) := ⟨rfl, rfl, rfl, by decide +kernel, rfl, by decide +kernel, by decide +kernel⟩
theorem ok_is_term {f : Addr} {fd : FuncData} (F : Fun K "is_term" "is_term" is_term_S f fd) (B : Bi mg) (h_is_int : DefOk P w K mg base 1 "is_int" ["thing"] (SpD K O rIsInt)) (h_is_list : DefOk P w K mg base 1 "is_list" ["thing"] (SpD K O rIsList)) :
    FnOk P w K mg base CX0 2 f fd ["thing"] (SpD K O rIsTerm) := by
  refine F.ok is_term_sc (fun vs H Q E h => ?_) (fun cdv A outer s H vs Q E hr h => ?_)
  · obtain ⟨G, ds, d, e, as, ⟨d0, rfl, rfl⟩, k⟩ := h
    exact as.len
  · obtain ⟨G, ds, d, e, as, ⟨d0, rfl, rfl⟩, k⟩ := h
    obtain ⟨v, r, rfl, a, n⟩ := atL_cons.mp as
    obtain rfl := atL_nil.mp n
    refine ⟨_, (pss_one (ps_ret (pe_and (pe_callD h_is_list (hr.mono (by first | decide | exact Nat.le_refl _)) (pa_cons (pv 0) pa_nil)) (pe_and (pe_cmpR op_eq (pe_callB (call_lenK K) (by rfl) B.len (by decide +kernel) (pa_cons (pv 0) pa_nil)) pe_int (nomark _)) (pe_and (pe_callD h_is_int (hr.mono (by first | decide | exact Nat.le_refl _)) (pa_cons (pe_ixK K (pv 0) pe_int (fun _ _ => rfl)) pa_nil)) (pe_one (pe_callD h_is_int (hr.mono (by first | decide | exact Nat.le_refl _)) (pa_cons (pe_ixK K (pv 0) pe_int (fun _ _ => rfl)) pa_nil)))))))), ?_⟩
    refine s_retD (ed_of (v := .bl (dTerm d0)) ?_ (at_bl.mpr rfl)) e k
    have hv : EvD K O (tVar 0) [some v] G d0 := ed_var rfl a
    by_cases hs : dSeq d0 = true ∧ dLen d0 = 2
    · obtain ⟨x, y, hx, hy, hxy⟩ := dItem_of hs.1 hs.2
      refine ev_is (ev_andV (a := true) (b := dTerm d0) (ev_is (ev_bl (ed_call (eda_cons hv eda_nil) ⟨d0, rfl, rfl⟩)) (by rw [hs.1])) fun _ => ?_) rfl
      refine ev_is (ev_andV (a := true) (b := dTerm d0) (ev_is (ev_op (len_d hv hs.1) ev_c (rv_eq rfl)) (by rw [hs.2]; rfl)) fun _ => ?_) rfl
      refine ev_is (ev_andV (a := dInt x) (b := dInt y) (ev_bl (ed_call (eda_cons (ed_item hv (i := 0) ev_c hx) eda_nil) ⟨x, rfl, rfl⟩)) fun _ => ?_) (by rw [hxy])
      exact ev_bl (ed_call (eda_cons (ed_item hv (i := 1) ev_c hy) eda_nil) ⟨y, rfl, rfl⟩)
    · have hn : dTerm d0 = false := dTerm_no fun h1 h2 => hs ⟨h1, h2⟩
      rw [hn]
      refine ev_is (ev_andV (a := dSeq d0) (b := false) (ev_bl (ed_call (eda_cons hv eda_nil) ⟨d0, rfl, rfl⟩)) fun h1 => ?_) (by cases dSeq d0 <;> rfl)
      refine ev_is (ev_andV (a := false) (b := false) (ev_is (ev_op (len_d hv h1) ev_c (rv_eq rfl)) ?_) fun z => nomatch z) rfl
      have z : ¬ (V.int (dLen d0 : Nat) = V.int 2) := fun q => hs ⟨h1, by injection q with q; omega⟩
      show V.bl (decide (V.int (dLen d0 : Nat) = V.int 2)) = V.bl false
      rw [decide_eq_false z]
/-! ### first_bad_term -/
def badL : List (D ω) → Option Nat
  | [] => none
  | d :: l => if dTerm d then (badL l).map (· + 1) else some 0
def dBad : D ω → D ω
  | .lst l => match badL l with | none => .non | some i => .int (i : Nat)
  | .tup l => match badL l with | none => .non | some i => .int (i : Nat)
  | _ => .int 0
def rBad : List (D ω) → D ω → Prop := fun ds r => ∃ d, ds = [d] ∧ r = dBad d
theorem badL_at : ∀ {l : List (D ω)} {i : Nat} {d : D ω}, l[i]? = some d → (∀ j, j < i → ∀ c, l[j]? = some c → dTerm c = true) → dTerm d = false → badL l = some i
  | [], i, d, h, _, _ => by simp at h
  | c :: l, 0, d, h, _, hb => by
    have e : c = d := Option.some.inj h
    subst e
    unfold badL
    rw [hb]
    rfl
  | c :: l, i + 1, d, h, hp, hb => by
    unfold badL
    rw [hp 0 (Nat.succ_pos _) c rfl, if_pos rfl, badL_at (i := i) (by simpa using h) (fun j hj c' hc => hp (j + 1) (by omega) c' (by simpa using hc)) hb]
    rfl
theorem badL_none : ∀ {l : List (D ω)}, (∀ c, c ∈ l → dTerm c = true) → badL l = none
  | [], _ => rfl
  | c :: l, h => by
    unfold badL
    rw [h c (List.mem_cons_self ..), if_pos rfl, badL_none fun c' hc => h c' (List.mem_cons_of_mem _ hc)]
    rfl
abbrev first_bad_term_S : Stmt := topS 19
abbrev first_bad_term_N : List Str := ["terms", "index", "thing"]
theorem first_bad_term_sc : FnScope first_bad_term_N ["terms"] (defScope first_bad_term_S) := ⟨rfl, rfl, rfl, by decide +kernel, rfl, by decide +kernel, by decide +kernel⟩
theorem ok_first_bad_term {f : Addr} {fd : FuncData} (F : Fun K "first_bad_term" "first_bad_term" first_bad_term_S f fd) (B : Bi mg) (h_is_term : DefOk P w K mg base 2 "is_term" ["thing"] (SpD K O rIsTerm)) (h_is_list : DefOk P w K mg base 1 "is_list" ["thing"] (SpD K O rIsList)) :
    FnOk P w K mg base CX0 3 f fd ["terms"] (SpD K O rBad) := by
  refine F.ok first_bad_term_sc (fun vs H Q E h => ?_) (fun cdv A outer s H vs Q E hr h => ?_)
  · obtain ⟨G, ds, d, e, as, ⟨d0, rfl, rfl⟩, k⟩ := h
    exact as.len
  · obtain ⟨G, ds, d, e, as, ⟨d0, rfl, rfl⟩, k⟩ := h
    obtain ⟨v, r, rfl, a, n⟩ := atL_cons.mp as
    obtain rfl := atL_nil.mp n
    refine ⟨_, (pss_cons (ps_if (pt_not (pt_val (pe_callD h_is_list (hr.mono (by first | decide | exact Nat.le_refl _)) (pa_cons (pv 0) pa_nil)))) (pss_one (ps_ret pe_int)) pss_nil)
    (pss_cons (ps_for PassesOwn.never rfl (pi_or (pi_enum (by rfl) B.enumerate (pa_cons (pv 0) pa_nil)) (pi_enumT (by rfl) B.enumerate (pa_cons (pv 0) pa_nil))) (pg_tupK (k := 2) K rfl (pgs_cons (pg_name (i := 1) first_bad_term_sc.nd rfl (Or.inl rfl)) (pgs_cons (pg_name (i := 2) first_bad_term_sc.nd rfl (Or.inl rfl)) pgs_nil))) (pss_one (ps_if (pt_not (pt_val (pe_callD h_is_term (hr.mono (by first | decide | exact Nat.le_refl _)) (pa_cons (pv 2) pa_nil)))) (pss_one (ps_ret (pv 1))) pss_nil)))
    (pss_one (ps_ret pe_non)))), ?_⟩
    have hv : EvD K O (tVar 0) [some v, none, none] G d0 := ed_var rfl a
    refine q_ifG (b := !dSeq d0) (et_not (et_ofD (ed_call (eda_cons hv eda_nil) ⟨d0, rfl, rfl⟩))) e (fun hb H2 l => ?_) (fun hb H2 l => ?_)
    · refine s_retD (ed_of (v := .int 0) ev_c ?_) l.e (k.mono l)
      cases d0 <;> first | exact at_int.mpr rfl | cases hb
    · have hs : dSeq d0 = true := by cases q : dSeq d0 <;> first | rfl | (rw [q] at hb; cases hb)
      obtain ⟨items, hi, src⟩ : ∃ items : List (D ω), (dBad d0 = match badL items with | none => .non | some i => .int (i : Nat)) ∧ Src K O (fun σ H R => iEnum K (tCons (tVar 0) tNil) σ H R ∨ iEnumT K (tCons (tVar 0) tNil) σ H R) [some v, none, none] G (idxD items) := by
        cases d0 with
        | lst l => exact ⟨l, rfl, src_or1 (src_enum (eda_cons hv eda_nil))⟩
        | tup l => exact ⟨l, rfl, src_or2 (src_enumT (eda_cons hv eda_nil))⟩
        | _ => cases hs
      refine q_forS src l.e (fun i σ' G' H' => Le G H G' H' ∧ (∃ x y, σ' = [some v, x, y]) ∧ ∀ j, j < i → ∀ c, items[j]? = some c → dTerm c = true) (fun G0 H0 l0 => ⟨l.trans l0, ⟨_, _, rfl⟩, fun j hj => absurd hj (Nat.not_lt_zero _)⟩) ?_ ?_
      · intro G0 i d x σ' Gi Hi Gi' Hi' e0 hd e1 e2 p l' ad N hN
        obtain ⟨p1, ⟨x0, y0, rfl⟩, p3⟩ := p
        have hil : i < items.length := by
          have := (List.getElem?_eq_some_iff.mp hd).1
          rw [idxD_len] at this
          exact this
        have hc : items[i]? = some items[i] := List.getElem?_eq_getElem hil
        rw [idxD_get hc] at hd
        obtain rfl := (Option.some.inj hd).symm
        refine tg_pair ad l'.e fun x1 x2 a1 a2 => ?_
        obtain rfl := at_int.mp a1
        have hx2 : EvD K O (tVar 2) [some v, some (.int (i : Nat)), some x2] Gi' items[i] := ed_var rfl a2
        refine s_ifG (b := !dTerm items[i]) (et_not (et_ofD (ed_call (eda_cons hx2 eda_nil) ⟨_, rfl, rfl⟩))) l'.e (fun hb H3 l3 => ?_) (fun hb H3 l3 => ?_)
        · have hb' : dTerm items[i] = false := by cases q : dTerm items[i] <;> first | rfl | (rw [q] at hb; cases hb)
          refine s_retD (d := dBad d0) (ed_of (v := .int (i : Nat)) (ev_var rfl) ?_) l3.e (k.mono (p1.trans (l'.trans l3)))
          rw [hi, badL_at hc p3 hb']
          exact at_int.mpr rfl
        · have hb' : dTerm items[i] = true := by cases q : dTerm items[i] <;> first | rfl | (rw [q] at hb; cases hb)
          refine hN _ Gi' H3 (Ex.refl _) l3.e ⟨p1.trans (l'.trans l3), ⟨_, _, rfl⟩, fun j hj c hcj => ?_⟩
          by_cases q : j < i
          · exact p3 j q c hcj
          · have : j = i := by omega
            subst this
            rw [hc] at hcj
            cases hcj
            exact hb'
      · intro σ' G' H' e1 e2 p
        obtain ⟨p1, ⟨x0, y0, rfl⟩, p3⟩ := p
        refine s_retD (d := dBad d0) (ed_of (v := .non) ev_c ?_) e2 (k.mono p1)
        rw [hi, badL_none fun c hc => by
          obtain ⟨j, hj, rfl⟩ := List.mem_iff_getElem.mp hc
          exact p3 j (by rw [idxD_len]; exact hj) _ (List.getElem?_eq_getElem hj)]
        exact at_non.mpr rfl
/-! ### collected -/
def rColl : List (D ω) → D ω → Prop := fun ds r => ∃ p d rows, ds = [.int p, d] ∧ 0 < p ∧ RowsD d rows ∧ rows.length ≤ 30000 ∧ r = .lst ((coll p rows).map pairD)
abbrev collected_S : Stmt := topS 42
abbrev collected_N : List Str := ["prime", "pairs", "sums", "offsets", "offset", "coefficient"]
theorem collected_sc : FnScope collected_N ["prime", "pairs"] (defScope collected_S) := ⟨rfl, rfl, rfl, by decide +kernel, rfl, by decide +kernel, by decide +kernel⟩
theorem ok_collected {f : Addr} {fd : FuncData} (F : Fun K "collected" "collected" collected_S f fd) (B : Bi mg) : FnOk P w K mg base CX0 1 f fd ["prime", "pairs"] (SpD K O rColl) := by
  refine F.ok collected_sc (fun vs H Q E h => ?_) (fun cdv A outer s H vs Q E hr h => ?_)
  · obtain ⟨G, ds, d, e, as, ⟨p, d0, rows, rfl, _⟩, k⟩ := h
    exact as.len
  · obtain ⟨G, ds, d, e, as, ⟨p, d0, rows, rfl, hp, ⟨l, hl, hrows⟩, hz, rfl⟩, k⟩ := h
    obtain ⟨v0, r, rfl, a0, n⟩ := atL_cons.mp as
    obtain rfl := at_int.mp a0
    obtain ⟨v, r, rfl, a, n⟩ := atL_cons.mp n
    obtain rfl := atL_nil.mp n
    have hu := hu_of hr
    refine ⟨_, (pss_cons (ps_set (i := 2) collected_sc.nd rfl (Or.inr rfl) pe_dnewK)
    (pss_cons (ps_for PassesOwn.never rfl (pi_or (pi_list (pv 1)) (pi_tup (pv 1))) (pg_or (pg_tupK (k := 2) K rfl (pgs_cons (pg_name (i := 4) collected_sc.nd rfl (Or.inl rfl)) (pgs_cons (pg_name (i := 5) collected_sc.nd rfl (Or.inl rfl)) pgs_nil))) (pg_unl rfl (pgs_cons (pg_name (i := 4) collected_sc.nd rfl (Or.inl rfl)) (pgs_cons (pg_name (i := 5) collected_sc.nd rfl (Or.inl rfl)) pgs_nil)))) (pss_one (ps_asg (pe_op op_modN (pe_op op_add (pe_dget2 (by exact hu) (pv 2) (pv 4) pe_int ⟨rfl, rfl, rfl, rfl⟩) (pv 5)) (pv 0)) (pg_sub (pv 2) (pv 4) (set_dict (by exact hu))))))
    (pss_cons (ps_set (i := 3) collected_sc.nd rfl (Or.inl rfl) (pe_callB cr_sortedI (by rfl) B.sorted (by decide +kernel) (pa_cons (pe_lock (pe_lc (own := [("offset", 4)]) rfl collected_sc.nd (pi_keys (pv 2)) (blkOk_by (N := collected_N) (sc := defScope collected_S) (by decide +kernel)) (fun _ _ _ _ _ => (pg_name (i := 4) collected_sc.nd rfl (Or.inl rfl))) (fun _ _ _ _ _ => pts_nil) (fun _ _ _ _ _ => by exact (pe_callTy call_int1 (by rfl) B.int (by decide +kernel) (pa_cons (pv 4) pa_nil))))) pa_nil)))
    (pss_one (ps_ret (pe_lc (own := [("offset", 4)]) rfl collected_sc.nd (pi_list (pv 3)) (blkOk_by (N := collected_N) (sc := defScope collected_S) (by decide +kernel)) (fun _ _ _ _ _ => (pg_name (i := 4) collected_sc.nd rfl (Or.inl rfl))) (fun _ _ _ _ _ => by exact pts_one (pt_truK K (pe_dget (by exact hu) (pv 2) (pv 4) (fun _ _ => rfl)) (by intro _; rfl))) (fun _ _ _ _ _ => by exact (pe_tup (pa_cons (pv 4) (pa_cons (pe_dget (by exact hu) (pv 2) (pv 4) (fun _ _ => rfl)) pa_nil)))))))))), ?_⟩
    refine q_newD fun q hq => ?_
    have l1 : Le G H G (upd H q (.dK [])) := Le.newM e hq
    have src : Src K O (fun σ H R => iList K (tVar 1) σ H R ∨ iTup K (tVar 1) σ H R) [some (.int p), some v, some (.ref q), none, none, none] G l := by
      rcases hl with rfl | rfl
      · exact src_or1 (src_list (ed_var rfl a))
      · exact src_or2 (src_tup (ed_var rfl a))
    refine q_forS src l1.e (fun i σ' G' H' => Le G H G' H' ∧ (∃ x y, σ' = [some (.int p), some v, some (.ref q), none, x, y]) ∧ H' q = some (.dK (kvI (sums p (rows.take i)))) ∧ G' q = none)
      (fun G0 H0 l0 => ⟨l1.trans l0, ⟨_, _, rfl⟩, l0.h q _ upd_same, l0.gnone (none_of_ex e hq) (by rw [upd_same]; exact fun z => nomatch z)⟩) ?_ ?_
    · intro G0 i d x σ' Gi Hi Gi' Hi' e0 hd e1 e2 pv l' ad N hN
      obtain ⟨p1, ⟨x0, y0, rfl⟩, p3, p4⟩ := pv
      obtain ⟨⟨o, c⟩, hq2, hrow⟩ := hrows.get hd
      have h3 : Hi' q = some (.dK (kvI (sums p (rows.take i)))) := l'.h q _ p3
      have g3 : Gi' q = none := l'.gnone p4 (by rw [p3]; exact fun z => nomatch z)
      have body : ∀ (De : Ends) (hn : De.nx = N), tAsg (tOp (rI (fun _ j => j ≠ 0) fun i j => V.int (i.fmod j)) (tOp (rI0 fun i j => V.int (i + j)) (tDGet2 (tVar 2) (tVar 4) (tC (.int 0))) (tVar 5)) (tVar 0)) (gSub (tVar 2) (tVar 4) rSetD) De [some (.int p), some v, some (.ref q), none, some (.int o), some (.int c)] Hi' := by
        intro De hn
        refine s_setD h3 (c := ((getI (sums p (rows.take i)) o).getD 0 + c).fmod p) (o := o) (ev_op (ev_op (ev_dget2 (ev_var rfl) h3 (ev_var rfl) ev_c) (ev_var rfl) rv_I0) (ev_var rfl) (rv_I (by omega))) (ev_var rfl) (ev_var rfl) ?_ fun H4 e4 => ?_
        · have h5 := sums_len (p := p) (rows := rows.take i) (m := [])
          have h6 : (rows.take i).length ≤ rows.length := by rw [List.length_take]; omega
          show (sums p (rows.take i)).length < 100000
          unfold sums
          simp only [List.length_nil] at h5
          omega
        · rw [hn]
          refine hN _ Gi' _ (Ex.refl _) (Le.mut (p1.trans (l'.trans (Le.heap l'.e e4))) hq g3).e ⟨Le.mut (p1.trans (l'.trans (Le.heap l'.e e4))) hq g3, ⟨_, _, rfl⟩, ?_, g3⟩
          rw [sums_more hq2]
          exact upd_same
      rcases hrow with rfl | rfl
      · refine Or.inr (tg_pairL ad l'.e fun x1 x2 a1 a2 => ?_)
        obtain rfl := at_int.mp a1
        obtain rfl := at_int.mp a2
        exact body _ rfl
      · refine Or.inl (tg_pair ad l'.e fun x1 x2 a1 a2 => ?_)
        obtain rfl := at_int.mp a1
        obtain rfl := at_int.mp a2
        exact body _ rfl
    · intro σ' G' H' e1 e2 pv
      obtain ⟨p1, ⟨x0, y0, rfl⟩, p3, p4⟩ := pv
      rw [hrows.len, List.take_length] at p3
      have lf := Le.fix e p1 hq p3
      have hml : (sums p rows).length ≤ 30000 := by
        have h5 := sums_len (p := p) (rows := rows) (m := [])
        simp only [List.length_nil] at h5
        show (rows.foldl (step p) []).length ≤ 30000
        omega
      have hm : (upd G' q (.dK (kvI (sums p rows)))) q = some (.dK (kvI (sums p rows))) := upd_same
      have ho : EvD K O (tLockE (tLc (iKeys (tVar 2)) (gName 4) tYes (tCB (fun xs H Q => (∃ i, xs = [V.int i] ∧ Q (.int i) H) ∨ ∃ k, xs = [V.bl k] ∧ Q (.int (if k then 1 else 0)) H) (tCons (tVar 4) tNil)) [4])) [some (.int p), some v, some (.ref q), none, x0, y0] (upd G' q (.dK (kvI (sums p rows)))) (.lst (((sums p rows).map (·.1)).map D.int)) := by
        refine ed_lock hm True.intro ⟨_, rfl⟩ ?_ fun od => ?_
        · show noObjL _ = true
          exact noObj_ints
        · have h7 := ed_lc (K := K) (O := O) (te := tCB (fun xs H Q => (∃ i, xs = [V.int i] ∧ Q (.int i) H) ∨ ∃ k, xs = [V.bl k] ∧ Q (.int (if k then 1 else 0)) H) (tCons (tVar 4) tNil)) (tt := tYes) (vs := [4]) (g := gName 4) (fun _ => true) (fun d => d) (src_keys (O := O) (td := tVar 2) (σ := [some (.int p), some v, some (.ref q), none, x0, y0]) (ev_var rfl) (upd_same (a := q) (o := .frz od (.dK (kvI (sums p rows)))) (H := upd G' q (.dK (kvI (sums p rows)))))) (by rw [List.length_map]; exact Nat.le_trans hml (by omega)) ?_
          · have e8 : (((sums p rows).map fun q => (D.int q.1 : D ω)).filter fun _ => true).map (fun d => d) = ((sums p rows).map (·.1)).map D.int := by
              rw [List.filter_eq_self.mpr (fun _ _ => rfl), List.map_id', List.map_map]
              rfl
            rw [e8] at h7
            exact h7
          · intro i d x Gi Hi hd eg eh ad Q' hQ
            obtain ⟨w, rfl⟩ : ∃ w, d = D.int w := by
              have hi : i < (sums p rows).length := by
                have := (List.getElem?_eq_some_iff.mp hd).1
                rw [List.length_map] at this
                exact this
              rw [List.getElem?_map, List.getElem?_eq_getElem hi] at hd
              exact ⟨_, (Option.some.inj hd).symm⟩
            obtain rfl := at_int.mp ad
            exact hQ _ Hi (Ex.refl _) rfl et_yes fun _ => ed_of (ev_int1 (ev_var rfl)) (at_int.mpr rfl)
      refine q_asgD (ed_sorted ho) lf.e fun vo G5 H5 l5 ao => ?_
      have hm5 : G5 q = some (.dK (kvI (sums p rows))) := l5.g q _ hm
      refine s_retD ?_ l5.e (k.mono (lf.trans l5))
      have h8 := ed_lc (K := K) (O := O) (te := tTup (tCons (tVar 4) (tCons (tDGet (tVar 2) (tVar 4)) tNil))) (tt := tTruK K (tDGet (tVar 2) (tVar 4))) (vs := [4]) (g := gName 4) (fun d => match d with | .int o => coef p rows o != 0 | _ => false) (fun d => match d with | .int o => pairD (o, coef p rows o) | _ => d)
        (src_list (tl := tVar 3) (σ := [some (.int p), some v, some (.ref q), some vo, x0, y0]) (ed_var rfl ao)) (by rw [List.length_map, srt_perm.length_eq, List.length_map]; exact Nat.le_trans hml (by omega)) ?_
      · have e8 : ∀ l : List Int, ((l.map (D.int (ω := ω))).filter fun d => match d with | .int o => coef p rows o != 0 | _ => false).map (fun d => match d with | .int o => pairD (o, coef p rows o) | _ => d) = ((l.filter fun o => coef p rows o != 0).map fun o => (o, coef p rows o)).map pairD := by
          intro l
          induction l with
          | nil => rfl
          | cons o r ih =>
            rw [List.map_cons, List.filter_cons, List.filter_cons]
            by_cases ho : (coef p rows o != 0) = true
            · simp only [ho, if_true, List.map_cons]
              rw [ih]
            · simp only [ho, if_false]
              exact ih
        rw [e8] at h8
        exact h8
      · intro i d x Gi Hi hd eg eh ad Q' hQ
        obtain ⟨o, ho', rfl⟩ : ∃ o, o ∈ srt ((sums p rows).map (·.1)) ∧ d = D.int o := by
          have hi : i < (srt ((sums p rows).map (·.1))).length := by
            have := (List.getElem?_eq_some_iff.mp hd).1
            rw [List.length_map] at this
            exact this
          rw [List.getElem?_map, List.getElem?_eq_getElem hi] at hd
          exact ⟨_, List.getElem_mem hi, (Option.some.inj hd).symm⟩
        obtain rfl := at_int.mp ad
        have hmem : o ∈ (sums p rows).map (·.1) := srt_perm.mem_iff.mp ho'
        obtain ⟨c, hc⟩ := Option.isSome_iff_exists.mp (getI_some.mpr hmem)
        have hco : coef p rows o = c := by unfold coef; rw [hc]; rfl
        have hg := eg q _ hm5
        refine hQ _ Hi (Ex.refl _) rfl ?_ fun _ => ?_
        · show EvT _ _ _ (coef p rows o != 0)
          rw [hco]
          exact et_truI (ev_dget (ev_var rfl) hg (ev_var rfl) hc)
        · show EvD _ _ _ _ _ (pairD (o, coef p rows o))
          rw [hco]
          exact ed_tup (eda_cons (ed_of (ev_var rfl) (at_int.mpr rfl)) (eda_cons (ed_of (ev_dget (ev_var rfl) hg (ev_var rfl) hc) (at_int.mpr rfl)) eda_nil)) (by show 2 ≤ 100000; decide)
end
end SR
set_option maxRecDepth 100000
set_option maxHeartbeats 4000000
namespace SR
open PySem PySem.Spec PyProof.Rows L2 Evl
theorem funD_ok {P : Program} {w : World} {K : PySem.W.Frag} {mg : Str → Option Value} {base : Heap} {x qual : Str} {st : Stmt} {dvs : List V} {kws : List (Str × V)} {f : Addr} {fd : FuncData} {N ps : List Str} {k : Nat} {sp : Sp}
    (F : FunD K x qual (defArgs st) (defBody st) (defScope st) dvs kws f fd) (S : FnScope N ps (defScope st)) (len : ∀ vs H Q E, sp vs H Q E → vs.length = ps.length)
    (hbody : ∀ (cdv : Value) (A : Around) (outer : List Env) (s : Shared) (H : Hp) (vs : List V) (Q : VK) (E : XK), Room k (A.deeper (envOfC qual (defScope st) s.heap.objs.size f cdv)) → sp vs H Q E →
      ∃ t, PSs (cxOf CX0 P w K mg base N qual (defScope st) f cdv A outer s H E).nox (defBody st) t ∧ t { nx := fun _ H' => Q .non H', rt := Q } (start N vs) H) : FnOk P w K mg base CX0 (k + 1) f fd ps sp :=
  FunD.ok F S len fun cdv A outer s H vs Q E hr h => by
    obtain ⟨t, h1, h2⟩ := hbody cdv A outer s H vs Q E hr h
    exact ⟨t, h1.nox, h2⟩
/-! ### Filter.__init__, good arguments -/
def spInit (K : PySem.W.Frag) (C : Addr) : Sp := fun vs H Q _ => ∃ (G H1 : Hp) (x dx : Addr) (p : Int) (v : V) (d : D FilS) (rows : List (Int × Int)), vs = [.ref x, .int p, v] ∧ Ex G H1 ∧ H1 x = none ∧ H1 dx = none ∧ dx ≠ x ∧ H = upd (upd H1 dx (.own x)) x (.ins C dx []) ∧
  At K (FilO K C) G d v ∧ RowsD d rows ∧ rows.length ≤ 30000 ∧ primes.contains p = true ∧ ∀ G2 H2, Le G H1 G2 H2 → FilAt K C G2 x ⟨p, coll p rows⟩ → Q .non H2
theorem rows_bad {ω : Type} {d : D ω} {rows : List (Int × Int)} (h : RowsD d rows) : dBad d = .non := by
  obtain ⟨l, hl, hr⟩ := h
  have hb : badL l = none := badL_none fun c hc => by
    obtain ⟨j, hj, rfl⟩ := List.mem_iff_getElem.mp hc
    obtain ⟨q, _, h1⟩ := hr.get (List.getElem?_eq_getElem hj)
    rcases h1 with h1 | h1 <;> rw [h1] <;> rfl
  rcases hl with rfl | rfl
  · show (match badL l with | none => D.non | some i => D.int (i : Nat)) = D.non
    rw [hb]
  · show (match badL l with | none => D.non | some i => D.int (i : Nat)) = D.non
    rw [hb]
theorem prime_pos {p : Int} (h : primes.contains p = true) : 0 < p := by
  have h1 : p ∈ primes := List.contains_iff_mem.mp h
  unfold primes at h1
  simp at h1
  omega
theorem putF_len {f : Str} {v : V} : ∀ {fs : List (Str × V)}, (putF f v fs).length ≤ fs.length + 1
  | [] => Nat.le_refl _
  | (g, x) :: r => by
    show (if g = f then (g, v) :: r else (g, x) :: putF f v r).length ≤ _
    split
    · simp
    · have := putF_len (f := f) (v := v) (fs := r)
      simp only [List.length_cons]
      omega
theorem flds_eq {p : Int} {tp kd : Addr} : putF "coefficients" (.ref kd) (putF "pairs" (.ref tp) (putF "prime" (.int p) [])) = flds p tp kd := by
  have h1 : ¬ (("prime" : Str) = "pairs") := by decide +kernel
  have h2 : ¬ (("prime" : Str) = "coefficients") := by decide +kernel
  have h3 : ¬ (("pairs" : Str) = "coefficients") := by decide +kernel
  unfold flds
  simp [putF, h1, h2, h3]
theorem ts_kv {K : PySem.W.Frag} {H : Hp} : ∀ {ts : List Addr} {ps : List (Int × Int)}, TsAt K H ts ps → Paired (fun p (kv : Key × V) => SqT K H p [kV kv.1, kv.2]) ts (kvI ps)
  | _, _, .nil => .nil
  | _, _, .cons h t => .cons h (ts_kv t)
section
variable {P : Program} {w : World} {K : PySem.W.Frag} {mg : Str → Option Value} {base : Heap} {C : Addr} {Ty : FilS → Value}
abbrev Filter___init___S : Stmt := inClass (topS 60) 0
abbrev Filter___init___N : List Str := ["self", "prime", "terms", "index"]
theorem Filter___init___sc : FnScope Filter___init___N ["self", "prime", "terms"] (defScope Filter___init___S) := ⟨rfl, rfl, rfl, by decide +kernel, rfl, by decide +kernel, by decide +kernel⟩
theorem ok_init {f : Addr} {fd : FuncData} {dvs : List V} {kws : List (Str × V)} (F : FunD K "__init__" "Filter.__init__" (defArgs Filter___init___S) (defBody Filter___init___S) (defScope Filter___init___S) dvs kws f fd) (B : Bi mg) (c : FilC K C)
    (h_is_prime : DefOk P w K mg base 2 "is_prime" ["thing"] (SpD K (FilO K C) rIsPrime)) (h_first_bad_term : DefOk P w K mg base 3 "first_bad_term" ["terms"] (SpD K (FilO K C) rBad)) (h_collected : DefOk P w K mg base 1 "collected" ["prime", "pairs"] (SpD K (FilO K C) rColl)) :
    FnOk P w K mg base CX0 4 f fd ["self", "prime", "terms"] (spInit K C) := by
  refine funD_ok F Filter___init___sc (fun vs H Q E h => ?_) (fun cdv A outer s H vs Q E hr h => ?_)
  · obtain ⟨G, H1, x, dx, p, v, d, rows, rfl, _⟩ := h
    rfl
  · obtain ⟨G, H1, x, dx, p, v, d, rows, rfl, e, hx, hdx, hne, rfl, a, hrows, hz, hp, k⟩ := h
    refine ⟨_, (pss_cons (ps_if (pt_not (pt_val (pe_callD h_is_prime (hr.mono (by first | decide | exact Nat.le_refl _)) (pa_cons (pv 1) pa_nil)))) (pss_one ps_never) pss_nil)
    (pss_cons (ps_set (i := 3) Filter___init___sc.nd rfl (Or.inl rfl) (pe_callD h_first_bad_term (hr.mono (by first | decide | exact Nat.le_refl _)) (pa_cons (pv 2) pa_nil)))
    (pss_cons (ps_if (pt_cmpR op_notN (pv 3) pe_non (nomark _)) (pss_one ps_never) pss_nil)
    (pss_cons (ps_fld (pv 0) (pv 1) rfl)
    (pss_cons (ps_fld (pv 0) (pe_callTy call_tupleF (by rfl) B.tuple (by decide +kernel) (pa_cons (pe_callD h_collected (hr.mono (by first | decide | exact Nat.le_refl _)) (pa_cons (pv 1) (pa_cons (pv 2) pa_nil))) pa_nil)) rfl)
    (pss_one (ps_fld (pv 0) (pe_callTy (call_dictT rfl) (by rfl) B.dict (by decide +kernel) (pa_cons (pe_fldK K (pv 0)) pa_nil)) rfl))))))), ?_⟩
    have l0 : Le G H1 G (upd H1 dx (.own x)) := Le.newM e hdx
    have l1 : Le G H1 G (upd (upd H1 dx (.own x)) x (.ins C dx [])) := l0.trans (Le.newM l0.e (by rw [upd_ne (Ne.symm hne)]; exact hx))
    have gx : G x = none := none_of_ex e hx
    have hv1 : ∀ y, EvD K (FilO K C) (tVar 1) [some (.ref x), some (.int p), some v, y] G (.int p) := fun y => ed_var rfl (at_int.mpr rfl)
    have hv2 : ∀ y, EvD K (FilO K C) (tVar 2) [some (.ref x), some (.int p), some v, y] G d := fun y => ed_var rfl a
    refine q_skip (et_is (et_not (et_ofD (ed_call (eda_cons (hv1 _) eda_nil) ⟨_, rfl, rfl⟩))) (by show (!primes.contains p) = false; rw [hp]; rfl)) l1.e fun H2 l2 => ?_
    refine q_asgV (v := .non) (ev_non (ed_call (eda_cons (hv2 _) eda_nil) ⟨d, rfl, (rows_bad hrows).symm⟩)) l2.e fun H3 l3 => ?_
    refine q_skip (et_is (et_test (b := false) (ev_op (z := .bl (!decide (V.non = V.non))) (ev_var (i := 3) rfl) ev_c fun H4 e4 Q q => ⟨rfl, q H4 (Ex.refl H4)⟩)) rfl) l3.e fun H4 l4 => ?_
    have l14 := ((l1.trans l2).trans l3).trans l4
    have hx4 : H4 x = some (.ins C dx []) := l4.h x _ (l3.h x _ (l2.h x _ upd_same))
    refine ⟨_, rfl, _, rfl, x, C, dx, [], rfl, hx4, c.cl, c.n1, (by decide), ?_⟩
    have l5 := l14.mut (o := .ins C dx (putF "prime" (.int p) [])) hx gx
    refine ed_call (K := K) (O := FilO K C) (R := rColl) (ds := [.int p, d]) (d := .lst ((coll p rows).map pairD)) (eda_cons (hv1 _) (eda_cons (hv2 _) eda_nil)) ⟨p, d, rows, rfl, prime_pos hp, hrows, hz, rfl⟩ _ l5.e _ fun vl G6 H6 l6 al => ?_
    obtain ⟨la, vs, rfl, hs, as⟩ := at_lst.mp al
    obtain ⟨ts, rfl, hts⟩ := pairs_atL as
    refine ⟨la, _, rfl, sq_of (l6.e _ _ hs), fun tp o htp ho => ?_⟩
    have l7 := Le.new l6.e (o := .frz o (.tup (ts.map V.ref))) htp
    have hx6 : H6 x = some (.ins C dx (putF "prime" (.int p) [])) := l6.h x _ upd_same
    have gx6 : G6 x = none := l6.gnone gx (by rw [upd_same]; exact fun z => nomatch z)
    have hx7 : (upd H6 tp (.frz o (.tup (ts.map V.ref)))) x = some (.ins C dx (putF "prime" (.int p) [])) := l7.h x _ hx6
    have gx7 : (upd G6 tp (.frz o (.tup (ts.map V.ref)))) x = none := l7.gnone gx6 (by rw [hx6]; exact fun z => nomatch z)
    refine ⟨_, rfl, x, C, dx, _, rfl, hx7, c.cl, c.n2, (Nat.lt_of_le_of_lt putF_len (by decide)), ?_⟩
    have l8 := ((l5.trans l6).trans l7).mut (o := .ins C dx (putF "pairs" (.ref tp) (putF "prime" (.int p) []))) hx gx7
    have hl2 : (putF "pairs" (.ref tp) (putF "prime" (.int p) [])).lookup ("pairs" : Str) = some (V.ref tp) := by rw [lookup_putF, if_pos rfl]
    refine ⟨_, rfl, x, C, dx, _, _, rfl, upd_same, c.cl, c.n2, hl2, tp, o, ts, kvI (coll p rows), rfl, ho, ?_, ?_, fun kd hkd => ?_⟩
    · rw [upd_ne (by intro z; subst z; rw [hx6] at htp; cases htp), upd_same]
    · exact ts_kv ((hts.mono l7.g).mono l8.e)
    have hmk : mergeK [] (kvI (coll p rows)) = kvI (coll p rows) := by
      have h9 := mergeK_kvI (a := []) (b := coll p rows) (by rw [List.nil_append]; exact coll_nd)
      rw [List.nil_append] at h9
      exact h9
    rw [hmk]
    have l9 := Le.new l8.e (o := .dK (kvI (coll p rows))) hkd
    have kx : kd ≠ x := by intro z; subst z; rw [upd_same] at hkd; cases hkd
    have gx9 : (upd (upd G6 tp (.frz o (.tup (ts.map V.ref)))) kd (.dK (kvI (coll p rows)))) x = none := by rw [upd_ne (Ne.symm kx)]; exact gx7
    refine ⟨_, rfl, x, C, dx, _, rfl, (by rw [upd_ne (Ne.symm kx)]; exact upd_same), c.cl, c.n3, (Nat.lt_of_le_of_lt putF_len (Nat.lt_of_le_of_lt (Nat.succ_le_succ putF_len) (by show 1 + 1 < 1000; decide))), ?_⟩
    have l10 := (l8.trans l9).mut (o := .ins C dx (putF "coefficients" (.ref kd) (putF "pairs" (.ref tp) (putF "prime" (.int p) [])))) hx gx9
    have l11 := Le.fix e l10 hx upd_same
    refine k _ _ l11 ⟨dx, tp, o, ts, kd, ?_, ho, ?_, ?_, ?_⟩
    · rw [upd_same, flds_eq]
    · have n1 : tp ≠ x := by intro z; subst z; rw [hx6] at htp; cases htp
      have n2 : tp ≠ kd := by
        intro z
        subst z
        rw [upd_ne n1, upd_same] at hkd
        cases hkd
      rw [upd_ne n1, upd_ne n2, upd_same]
    · exact ((hts.mono l7.g).mono l9.g).mono (Ex.new gx9)
    · rw [upd_ne kx, upd_same]
end
end SR
set_option maxRecDepth 100000
set_option maxHeartbeats 4000000
namespace SR
open PySem PySem.Spec PyProof.Rows L2 Evl
/-- the kinds of builtin things beside a Filter -/
def kinds : List String := ["NoneType", "bool", "int", "str", "list", "tuple", "dict"]
structure FilT (K : PySem.W.Frag) (C : Addr) : Prop where
  no : ∀ n, n ∈ kinds → PySem.W.kitOne K (.type n) (.ref C) = some false
  int : PySem.W.kitOne K (.ref C) (.type "int") = some false
  bool : PySem.W.kitOne K (.ref C) (.type "bool") = some false
  list : PySem.W.kitOne K (.ref C) (.type "list") = some false
  tuple : PySem.W.kitOne K (.ref C) (.type "tuple") = some false
  ca : PySem.W.findIn K (.ref C) "__class__" = some (some (.builtin "object.__class__"))
  cn : PySem.W.specialIn K (.builtin "object.__class__") "__get__" = some (some (.builtin "getset_descriptor.__get__"))
  ct : PySem.W.takesIn K (.builtin "object.__class__") = some true
  cm : PySem.W.mroIn K C (.type "object") = some true
section
variable {P : Program} {w : World} {K : PySem.W.Frag} {mg : Str → Option Value} {base : Heap} {C : Addr}
theorem ot_fil (c : FilC K C) (t : FilT K C) : OT K (FilO K C) (fun _ => .ref C) where
  ty := fun H a w ⟨dx, tp, o, ts, kd, h1, _⟩ => .base (.ins h1 c.cl t.ca t.cn t.ct t.cm)
  int := fun _ => t.int
  bool := fun _ => t.bool
  list := fun _ => t.list
  tuple := fun _ => t.tuple
def dFil : D FilS → Bool | .obj _ => true | _ => false
theorem kit_own {C : Addr} (d : D FilS) (t : FilT K C) : PySem.W.kitOne K (tyD (fun _ => .ref C) d) (.ref C) = some (dFil d) := by
  cases d with
  | obj w =>
    show (if (Value.ref C == Value.ref C) = true then some true else PySem.W.kitCls K (.ref C) (.ref C)) = some true
    rw [if_pos (by simp)]
  | _ => exact t.no _ (by unfold kinds; simp [tyD])
theorem isi_own {C_Filter : Addr} {te : TE} {G : Hp} {σ : L2.St} {d : D FilS} (c : FilC K C_Filter) (t : FilT K C_Filter) (h : EvD K (FilO K C_Filter) te σ G d) : Ev (tCB (rIsi K) (tCons te (tCons (tC (.ref C_Filter)) tNil))) σ G (.bl (dFil d)) := fun H1 e Q q =>
  h H1 e _ fun v G2 H2 l a => ⟨v, .ref C_Filter, _, _, _, rfl, .own _, (ty_of (ot_fil c t).ty (a.mono l.e)), kit_own d t, q H2 l.h⟩
/-! ### terms, low, high, span, bool, ==, [] -/
def rTerms : List (D FilS) → D FilS → Prop := fun ds r => ∃ w, ds = [.obj w] ∧ r = .lst (w.ps.map pairD)
abbrev Filter_terms_S : Stmt := inClass (topS 60) 2
abbrev Filter_terms_N : List Str := ["self"]
theorem Filter_terms_sc : FnScope Filter_terms_N ["self"] (defScope Filter_terms_S) := ⟨rfl, rfl, rfl, by decide +kernel, rfl, by decide +kernel, by decide +kernel⟩
theorem ok_terms {f : Addr} {fd : FuncData} (F : Fun K "terms" "Filter.terms" Filter_terms_S f fd) (B : Bi mg) (c : FilC K C) : FnOk P w K mg base CX0 1 f fd ["self"] (SpD K (FilO K C) rTerms) := by
  refine F.ok Filter_terms_sc (fun vs H Q E h => ?_) (fun cdv A outer s H vs Q E hr h => ?_)
  · obtain ⟨G, ds, d, e, as, ⟨w0, rfl, rfl⟩, k⟩ := h
    exact as.len
  · obtain ⟨G, ds, d, e, as, ⟨w0, rfl, rfl⟩, k⟩ := h
    obtain ⟨v, r, rfl, a, n⟩ := atL_cons.mp as
    obtain rfl := atL_nil.mp n
    refine ⟨_, (pss_one (ps_ret (pe_callTy call_list_of (by rfl) B.list (by decide +kernel) (pa_cons (pe_fldK K (pv 0)) pa_nil)))), ?_⟩
    exact s_retD (ed_listT (ed_pairs c (ed_var rfl a))) e k
def rBoolF : List (D FilS) → D FilS → Prop := fun ds r => ∃ w, ds = [.obj w] ∧ r = .bl (!w.ps.isEmpty)
abbrev Filter___bool___S : Stmt := inClass (topS 60) 8
abbrev Filter___bool___N : List Str := ["self"]
theorem Filter___bool___sc : FnScope Filter___bool___N ["self"] (defScope Filter___bool___S) := ⟨rfl, rfl, rfl, by decide +kernel, rfl, by decide +kernel, by decide +kernel⟩
theorem ok_bool {f : Addr} {fd : FuncData} (F : Fun K "__bool__" "Filter.__bool__" Filter___bool___S f fd) (B : Bi mg) (c : FilC K C) : FnOk P w K mg base CX0 1 f fd ["self"] (SpD K (FilO K C) rBoolF) := by
  refine F.ok Filter___bool___sc (fun vs H Q E h => ?_) (fun cdv A outer s H vs Q E hr h => ?_)
  · obtain ⟨G, ds, d, e, as, ⟨w0, rfl, rfl⟩, k⟩ := h
    exact as.len
  · obtain ⟨G, ds, d, e, as, ⟨w0, rfl, rfl⟩, k⟩ := h
    obtain ⟨v, r, rfl, a, n⟩ := atL_cons.mp as
    obtain rfl := atL_nil.mp n
    refine ⟨_, (pss_one (ps_ret (pe_callTy (call_boolT K) (by rfl) B.bool (by decide +kernel) (pa_cons (pe_fldK K (pv 0)) pa_nil)))), ?_⟩
    have h1 := ev_boolT (ed_pairs c (ed_var (i := 0) (σ := [some v]) rfl a))
    have e1 : (w0.ps.map (pairD (ω := FilS))).isEmpty = w0.ps.isEmpty := by cases w0.ps <;> rfl
    rw [e1] at h1
    exact s_retD (ed_of h1 (at_bl.mpr rfl)) e k
def rGet : List (D FilS) → D FilS → Prop := fun ds r => ∃ w o, ds = [.obj w, .int o] ∧ r = .int ((getI w.ps o).getD 0)
abbrev Filter___getitem___S : Stmt := inClass (topS 60) 10
abbrev Filter___getitem___N : List Str := ["self", "at"]
theorem Filter___getitem___sc : FnScope Filter___getitem___N ["self", "at"] (defScope Filter___getitem___S) := ⟨rfl, rfl, rfl, by decide +kernel, rfl, by decide +kernel, by decide +kernel⟩
theorem ok_getitem {f : Addr} {fd : FuncData} (F : Fun K "__getitem__" "Filter.__getitem__" Filter___getitem___S f fd) (B : Bi mg) (c : FilC K C) : FnOk P w K mg base CX0 1 f fd ["self", "at"] (SpD K (FilO K C) rGet) := by
  refine F.ok Filter___getitem___sc (fun vs H Q E h => ?_) (fun cdv A outer s H vs Q E hr h => ?_)
  · obtain ⟨G, ds, d, e, as, ⟨w0, o, rfl, rfl⟩, k⟩ := h
    exact as.len
  · obtain ⟨G, ds, d, e, as, ⟨w0, o, rfl, rfl⟩, k⟩ := h
    obtain ⟨v, r, rfl, a, n⟩ := atL_cons.mp as
    obtain ⟨v2, r, rfl, a2, n⟩ := atL_cons.mp n
    obtain rfl := atL_nil.mp n
    obtain rfl := at_int.mp a2
    have hu := hu_of hr
    refine ⟨_, (pss_one (ps_ret (pe_dget2 (by exact hu) (pe_fldK K (pv 0)) (pv 1) pe_int ⟨rfl, rfl, rfl, rfl⟩))), ?_⟩
    exact s_retD (ed_of (ev_dget2D (ed_coefs c (ed_var (i := 0) rfl a)) (ev_var (i := 1) rfl) ev_c) (at_int.mpr rfl)) e k
/-- the first and the last place -/
def lowO (ps : List (Int × Int)) : Option Int := ps.head?.map (·.1)
def highO (ps : List (Int × Int)) : Option Int := ps.getLast?.map (·.1)
def optD : Option Int → D FilS | none => .non | some i => .int i
def rLow : List (D FilS) → D FilS → Prop := fun ds r => ∃ w, ds = [.obj w] ∧ r = optD (lowO w.ps)
def rHigh : List (D FilS) → D FilS → Prop := fun ds r => ∃ w, ds = [.obj w] ∧ r = optD (highO w.ps)
def rSpan : List (D FilS) → D FilS → Prop := fun ds r => ∃ w, ds = [.obj w] ∧ r = optD ((lowO w.ps).bind fun a => (highO w.ps).map fun b => b - a)
theorem ed_first {te : TE} {σ : L2.St} {G : Hp} {q : Int × Int} {r : List (Int × Int)} {O : OI FilS} (h : EvD K O te σ G (.tup ((q :: r).map pairD))) : Ev (tOp (fun x y H Q => rIxL K x y H Q ∨ rIxT K x y H Q) (tOp (rIxT K) te (tC (.int 0))) (tC (.int 0))) σ G (.int q.1) :=
  ev_int (ed_item (i := 0) (ed_itemT (i := 0) (c := pairD q) h ev_c rfl) ev_c rfl)
theorem ed_final {te : TE} {σ : L2.St} {G : Hp} {q : Int × Int} {r : List (Int × Int)} {O : OI FilS} (h : EvD K O te σ G (.tup ((r ++ [q]).map pairD))) : Ev (tOp (fun x y H Q => rIxL K x y H Q ∨ rIxT K x y H Q) (tOp (rIxT K) te (tUn (rU fun i => .int (-i)) (tC (.int 1)))) (tC (.int 0))) σ G (.int q.1) :=
  ev_int (ed_item (i := 0) (ed_lastT (c := pairD q) h ev_neg1 (by simp)) ev_c rfl)
abbrev Filter_low_S : Stmt := inClass (topS 60) 3
abbrev Filter_low_N : List Str := ["self"]
theorem Filter_low_sc : FnScope Filter_low_N ["self"] (defScope Filter_low_S) := ⟨rfl, rfl, rfl, by decide +kernel, rfl, by decide +kernel, by decide +kernel⟩
theorem ok_low {f : Addr} {fd : FuncData} (F : Fun K "low" "Filter.low" Filter_low_S f fd) (B : Bi mg) (c : FilC K C) : FnOk P w K mg base CX0 1 f fd ["self"] (SpD K (FilO K C) rLow) := by
  refine F.ok Filter_low_sc (fun vs H Q E h => ?_) (fun cdv A outer s H vs Q E hr h => ?_)
  · obtain ⟨G, ds, d, e, as, ⟨w0, rfl, rfl⟩, k⟩ := h
    exact as.len
  · obtain ⟨G, ds, d, e, as, ⟨w0, rfl, rfl⟩, k⟩ := h
    obtain ⟨v, r, rfl, a, n⟩ := atL_cons.mp as
    obtain rfl := atL_nil.mp n
    refine ⟨_, (pss_one (ps_ret (pe_ifExp (pt_truK K (pe_fldK K (pv 0)) (by intro _; rfl)) (pe_ixK K (pe_ixTK K (pe_fldK K (pv 0)) pe_int (fun _ _ => rfl)) pe_int (fun _ _ => rfl)) pe_non))), ?_⟩
    have hp := ed_pairs c (ed_var (i := 0) (σ := [some v]) rfl a)
    refine s_retD (d := optD (lowO w0.ps)) ?_ e k
    obtain ⟨p, ps⟩ := w0
    cases ps with
    | nil => exact ed_of (ev_if (et_truT hp) (fun z => nomatch z) fun _ => ev_c) (at_non.mpr rfl)
    | cons q r => exact ed_of (ev_if (et_truT hp) (fun _ => ed_first hp) (fun z => nomatch z)) (at_int.mpr rfl)
abbrev Filter_high_S : Stmt := inClass (topS 60) 4
abbrev Filter_high_N : List Str := ["self"]
theorem Filter_high_sc : FnScope Filter_high_N ["self"] (defScope Filter_high_S) := ⟨rfl, rfl, rfl, by decide +kernel, rfl, by decide +kernel, by decide +kernel⟩
theorem ok_high {f : Addr} {fd : FuncData} (F : Fun K "high" "Filter.high" Filter_high_S f fd) (B : Bi mg) (c : FilC K C) : FnOk P w K mg base CX0 1 f fd ["self"] (SpD K (FilO K C) rHigh) := by
  refine F.ok Filter_high_sc (fun vs H Q E h => ?_) (fun cdv A outer s H vs Q E hr h => ?_)
  · obtain ⟨G, ds, d, e, as, ⟨w0, rfl, rfl⟩, k⟩ := h
    exact as.len
  · obtain ⟨G, ds, d, e, as, ⟨w0, rfl, rfl⟩, k⟩ := h
    obtain ⟨v, r, rfl, a, n⟩ := atL_cons.mp as
    obtain rfl := atL_nil.mp n
    refine ⟨_, (pss_one (ps_ret (pe_ifExp (pt_truK K (pe_fldK K (pv 0)) (by intro _; rfl)) (pe_ixK K (pe_ixTK K (pe_fldK K (pv 0)) (pe_un un_neg pe_int) (fun _ _ => rfl)) pe_int (fun _ _ => rfl)) pe_non))), ?_⟩
    have hp := ed_pairs c (ed_var (i := 0) (σ := [some v]) rfl a)
    refine s_retD (d := optD (highO w0.ps)) ?_ e k
    obtain ⟨p, ps⟩ := w0
    rcases List.eq_nil_or_concat ps with rfl | ⟨r, q, rfl⟩
    · exact ed_of (ev_if (et_truT hp) (fun z => nomatch z) fun _ => ev_c) (at_non.mpr rfl)
    · rw [List.concat_eq_append] at hp ⊢
      have e1 : (!((r ++ [q]).map (pairD (ω := FilS))).isEmpty) = true := by cases r <;> rfl
      have e2 : highO (r ++ [q]) = some q.1 := by simp [highO]
      show EvD _ _ _ _ _ (optD (highO (r ++ [q])))
      rw [e2]
      exact ed_of (ev_if (et_is (et_truT hp) e1) (fun _ => ed_final hp) (fun z => nomatch z)) (at_int.mpr rfl)
abbrev Filter_span_S : Stmt := inClass (topS 60) 5
abbrev Filter_span_N : List Str := ["self"]
theorem Filter_span_sc : FnScope Filter_span_N ["self"] (defScope Filter_span_S) := ⟨rfl, rfl, rfl, by decide +kernel, rfl, by decide +kernel, by decide +kernel⟩
theorem ok_span {f : Addr} {fd : FuncData} (F : Fun K "span" "Filter.span" Filter_span_S f fd) (B : Bi mg) (c : FilC K C) : FnOk P w K mg base CX0 1 f fd ["self"] (SpD K (FilO K C) rSpan) := by
  refine F.ok Filter_span_sc (fun vs H Q E h => ?_) (fun cdv A outer s H vs Q E hr h => ?_)
  · obtain ⟨G, ds, d, e, as, ⟨w0, rfl, rfl⟩, k⟩ := h
    exact as.len
  · obtain ⟨G, ds, d, e, as, ⟨w0, rfl, rfl⟩, k⟩ := h
    obtain ⟨v, r, rfl, a, n⟩ := atL_cons.mp as
    obtain rfl := atL_nil.mp n
    refine ⟨_, (pss_one (ps_ret (pe_ifExp (pt_truK K (pe_fldK K (pv 0)) (by intro _; rfl)) (pe_op op_sub (pe_ixK K (pe_ixTK K (pe_fldK K (pv 0)) (pe_un un_neg pe_int) (fun _ _ => rfl)) pe_int (fun _ _ => rfl)) (pe_ixK K (pe_ixTK K (pe_fldK K (pv 0)) pe_int (fun _ _ => rfl)) pe_int (fun _ _ => rfl))) pe_non))), ?_⟩
    have hp := ed_pairs c (ed_var (i := 0) (σ := [some v]) rfl a)
    refine s_retD (d := optD ((lowO w0.ps).bind fun a => (highO w0.ps).map fun b => b - a)) ?_ e k
    obtain ⟨p, ps⟩ := w0
    rcases List.eq_nil_or_concat ps with rfl | ⟨r, q, rfl⟩
    · exact ed_of (ev_if (et_truT hp) (fun z => nomatch z) fun _ => ev_c) (at_non.mpr rfl)
    · rw [List.concat_eq_append] at hp ⊢
      obtain ⟨q0, r0, e0⟩ : ∃ q0 r0, r ++ [q] = q0 :: r0 := by cases r <;> exact ⟨_, _, rfl⟩
      have e1 : (!((r ++ [q]).map (pairD (ω := FilS))).isEmpty) = true := by cases r <;> rfl
      have e2 : highO (r ++ [q]) = some q.1 := by simp [highO]
      have e3 : lowO (r ++ [q]) = some q0.1 := by rw [e0]; rfl
      show EvD _ _ _ _ _ (optD ((lowO (r ++ [q])).bind fun a => (highO (r ++ [q])).map fun b => b - a))
      rw [e2, e3]
      exact ed_of (ev_if (et_is (et_truT hp) e1) (fun _ => ev_op (ed_final hp) (ed_first (q := q0) (r := r0) (by rw [← e0]; exact hp)) rv_I0) (fun z => nomatch z)) (at_int.mpr rfl)
/-! ### == -/
def eqF (w : FilS) : D FilS → Bool | .obj u => decide (w.p = u.p) && decide (w.ps = u.ps) | _ => false
def rEqF : List (D FilS) → D FilS → Prop := fun ds r => ∃ w d, ds = [.obj w, d] ∧ r = .bl (eqF w d)
abbrev Filter___eq___S : Stmt := inClass (topS 60) 9
abbrev Filter___eq___N : List Str := ["self", "other"]
theorem Filter___eq___sc : FnScope Filter___eq___N ["self", "other"] (defScope Filter___eq___S) := ⟨rfl, rfl, rfl, by decide +kernel, rfl, by decide +kernel, by decide +kernel⟩
theorem ok_eq {f C_Filter : Addr} {fd : FuncData} (F : Fun K "__eq__" "Filter.__eq__" Filter___eq___S f fd) (B : Bi mg) (c : FilC K C_Filter) (t : FilT K C_Filter) (g_Filter : mg "Filter" = some (.ref C_Filter)) : FnOk P w K mg base CX0 1 f fd ["self", "other"] (SpD K (FilO K C_Filter) rEqF) := by
  refine F.ok Filter___eq___sc (fun vs H Q E h => ?_) (fun cdv A outer s H vs Q E hr h => ?_)
  · obtain ⟨G, ds, d, e, as, ⟨w0, o, rfl, rfl⟩, k⟩ := h
    exact as.len
  · obtain ⟨G, ds, d, e, as, ⟨w0, d1, rfl, rfl⟩, k⟩ := h
    obtain ⟨v, r, rfl, a, n⟩ := atL_cons.mp as
    obtain ⟨v2, r, rfl, a2, n⟩ := atL_cons.mp n
    obtain rfl := atL_nil.mp n
    refine ⟨_, (pss_one (ps_ret (pe_and (pe_callB (call_isiK' K) (by rfl) B.isinstance (by decide +kernel) (pa_cons (pv 1) (pa_cons (pe_glob (v := .ref C_Filter) rfl g_Filter rfl) pa_nil))) (pe_and (pe_cmpR op_eq (pe_fldK K (pv 0)) (pe_fldK K (pv 1)) (nomark _)) (pe_one (pe_cmpR (op_eqD hr.units) (pe_fldK K (pv 0)) (pe_fldK K (pv 1)) (nomark _))))))), ?_⟩
    have hs := ed_var (i := 0) (σ := [some v, some v2]) rfl a
    have ho := ed_var (i := 1) (σ := [some v, some v2]) rfl a2
    refine s_retD (ed_of (v := .bl (eqF w0 d1)) (ev_is (ev_andV (a := dFil d1) (b := eqF w0 d1) (isi_own c t ho) fun hb => ?_) (by cases d1 <;> rfl)) (at_bl.mpr rfl)) e k
    cases d1 with
    | obj u =>
      refine ev_is (ev_andV (a := decide (w0.p = u.p)) (b := decide (w0.ps = u.ps)) (ev_is (ev_op (ev_prime c hs) (ev_prime c ho) (rv_eq rfl)) ?_) fun _ => ?_) rfl
      · by_cases h : w0.p = u.p <;> simp [h]
      · exact ev_eqD (ed_pairs c hs) (ed_pairs c ho) noObj_pairs noObj_pairs shaped_tup shaped_tup eqv_pairs
    | _ => cases hb
end
end SR
set_option maxRecDepth 100000
set_option maxHeartbeats 4000000
namespace SR
open PySem PySem.Spec PyProof.Rows L2 Evl
section
variable {P : Program} {w : World} {K : PySem.W.Frag} {mg : Str → Option Value} {base : Heap} {ω : Type} {O : OI ω}
theorem toPL_ints {l : List Int} : PyData.canLayAll0 (toPL (ω := ω) (l.map D.int)) = true ∧ PyData.depthAll (toPL (ω := ω) (l.map D.int)) = 0 := by
  induction l with
  | nil => exact ⟨rfl, rfl⟩
  | cons n r ih =>
    refine ⟨?_, ?_⟩
    · show (PyData.canLay0 (.int n) && PyData.canLayAll0 (toPL (r.map D.int))) = true
      rw [ih.1]
      rfl
    · show max (PyData.depth (.int n)) (PyData.depthAll (toPL (r.map D.int))) = 0
      rw [ih.2]
      rfl
/-- xs != [] for a list of ints -/
theorem ev_neNil {ta : TE} {σ : L2.St} {H : Hp} {q : Addr} {cells : List Int} (h : Ev ta σ H (.ref q)) (hq : H q = some (.lst (cells.map V.int))) : Ev (tOp (rNeD K) ta (tLst tNil)) σ H (.bl (!cells.isEmpty)) := fun H1 e Q k =>
  h H1 e _ fun H2 e2 => ⟨by show 0 ≤ sizeLine; exact Nat.zero_le _, fun p hp => by
    have hq2 : H2 q = some (.lst (cells.map V.int)) := e2 q _ (e q _ hq)
    have hq3 : (upd H2 p (.lst [])) q = some (.lst (cells.map V.int)) := (Ex.new hp) q _ hq2
    have ht := toPL_ints (ω := Unit) (l := cells)
    refine ⟨.list (toPL (ω := Unit) (cells.map D.int)), .list [], .lst (sq_of hq3) ?_, .lst (sq_of upd_same) .nil, ?_, rfl, ?_⟩
    · exact dpl_of (O := ⟨fun _ _ _ => True, fun _ h => h⟩) (H := upd H2 p (.lst [])) noObj_ints (AtL.ints)
    · show (PyData.canLayAll0 (toPL (cells.map D.int)) && decide (PyData.depthAll (toPL (ω := Unit) (cells.map D.int)) + 1 ≤ 64)) = true
      rw [ht.1, ht.2]
      rfl
    · have e3 : (!PyData.eqv (.list (toPL (ω := Unit) (cells.map D.int))) (.list [])) = !cells.isEmpty := by cases cells <;> rfl
      rw [e3]
      exact k _ (e2.trans (Ex.new hp))⟩
/-! ### _law_draw -/
def pDraw : List (D ω) → Prop := fun ds => ∃ many, ds = [.int many] ∧ 0 < many ∧ many < 1073741824
def rDraw : List (D ω) → D ω → Prop := fun ds d => ∃ many x, ds = [.int many] ∧ d = .int x ∧ 0 ≤ x ∧ x < many
abbrev _law_draw_S : Stmt := topS 104
abbrev _law_draw_N : List Str := ["_law_spring_here", "_law_many", "_law_mixed", "_law_cell", "_law_digit"]
theorem _law_draw_sc : FnScope _law_draw_N ["_law_spring_here", "_law_many"] (defScope _law_draw_S) := ⟨rfl, rfl, rfl, by decide +kernel, rfl, by decide +kernel, by decide +kernel⟩
theorem ok_draw {f : Addr} {fd : FuncData} (F : Fun K "_law_draw" "_law_draw" _law_draw_S f fd) (B : Bi mg) : FnOk P w K mg base CX0 1 f fd ["_law_spring_here", "_law_many"] (SpX K O 1 pDraw rDraw) := by
  refine F.ok _law_draw_sc (fun vs H Q E h => ?_) (fun cdv A outer s0 H vs Q E hr h => ?_)
  · obtain ⟨G, s, q, n, ds, ws, rfl, e, gs, gq, spr, hn, as, ⟨many, rfl, h0, h1⟩, k⟩ := h
    show (V.ref s :: ws).length = 2
    rw [List.length_cons, as.len]
    rfl
  · obtain ⟨G, s, q, n, ds, ws, rfl, e, gs, gq, spr, hn, as, ⟨many, rfl, h0, h1⟩, k⟩ := h
    obtain ⟨v, r0, rfl, a, nn⟩ := atL_cons.mp as
    obtain rfl := atL_nil.mp nn
    obtain rfl := at_int.mp a
    have hu := hu_of hr
    have hsq := spr.ne
    obtain ⟨cells, r, m, sd, hs, hq, hc, hm0, hmn, hsd0, hsd1⟩ := spr.ex
    refine ⟨_, (pss_cons (ps_asg (pe_op op_add (pe_ixLK K (pv 0) pe_int (fun _ _ => rfl)) pe_int) (pg_sub (pv 0) pe_int set_list))
    (pss_cut (ps_if (PW.pt (pw_and (pt_cmpR op_eq (pe_ixLK K (pv 0) pe_int (fun _ _ => rfl)) pe_int (nomark _)) (pw_and1 (pt_cmpR (op_neD hr.units) (pe_ixLK K (pv 0) pe_int (fun _ _ => rfl)) (pe_lst pa_nil) (nomark _))))) (pss_cons (ps_set (i := 3) _law_draw_sc.nd rfl (Or.inl rfl) (pe_bm PySem.F.plainAttrs_list PySem.F.slot_list_pop PySem.F.type_list_pop mt_popAt (pe_ixLK K (pv 0) pe_int (fun _ _ => rfl)) (pa_cons pe_int pa_nil)))
    (pss_cons (ps_asg (pe_op op_modN (pe_callTy call_int1 (by rfl) B.int (by decide +kernel) (pa_cons (pe_op op_add (pe_op op_add (pe_op op_mul (pe_ixLK K (pv 0) pe_int (fun _ _ => rfl)) pe_int) (pv 3)) pe_int) pa_nil)) pe_int) (pg_sub (pv 0) pe_int set_list))
    (pss_one (ps_if (pt_cmpR op_ge (pv 3) (pe_op op_pow pe_int pe_int) (nomark _)) (pss_one (ps_asg (pv 3) (pg_sub (pv 0) pe_int set_list))) pss_nil)))) pss_nil)
    (pss_cons (ps_if (pt_cmpR op_gt (pe_ixLK K (pv 0) pe_int (fun _ _ => rfl)) pe_int (nomark _)) (pss_cons (ps_set (i := 4) _law_draw_sc.nd rfl (Or.inl rfl) (pe_op op_modN (pe_callTy call_int1 (by rfl) B.int (by decide +kernel) (pa_cons (pe_ixLK K (pv 0) pe_int (fun _ _ => rfl)) pa_nil)) (pv 1)))
    (pss_cons (ps_asg (pe_op op_fdivN (pe_ixLK K (pv 0) pe_int (fun _ _ => rfl)) (pv 1)) (pg_sub (pv 0) pe_int set_list))
    (pss_one (ps_ret (pv 4))))) pss_nil)
    (pss_cons (ps_set (i := 2) _law_draw_sc.nd rfl (Or.inl rfl) (pe_op op_modN (pe_callTy call_int1 (by rfl) B.int (by decide +kernel) (pa_cons (pe_op op_pow (pe_op op_add (pe_op op_add (pe_ixLK K (pv 0) pe_int (fun _ _ => rfl)) (pe_op op_mul pe_int (pe_ixLK K (pv 0) pe_int (fun _ _ => rfl)))) pe_int) pe_int) pa_nil)) pe_int))
    (pss_cons (ps_set (i := 2) _law_draw_sc.nd rfl (Or.inl rfl) (pe_op op_add (pe_op op_add (pe_op op_mul (pv 2) pe_int) (pe_op op_mul (pe_op op_mul pe_int (pe_ixLK K (pv 0) pe_int (fun _ _ => rfl))) (pe_ixLK K (pv 0) pe_int (fun _ _ => rfl)))) pe_int))
    (pss_one (ps_ret (pe_op op_modN (pe_op op_modN (pe_callTy call_int1 (by rfl) B.int (by decide +kernel) (pa_cons (pe_op op_pow (pv 2) pe_int) pa_nil)) pe_int) (pv 1))))))))), ?_⟩
    refine q_setL (j := 2) (v := .int (m + 1)) hs (ev_op (ev_op (ev_var (i := 0) rfl) ev_c (rv_ixL (sq_of hs) rfl)) ev_c rv_I0) (ev_var (i := 0) rfl) ev_c (by show 2 < 4; decide) fun H1 e1 => ?_
    have l1 : LeX s q G H G (upd H1 s (.lst [.ref q, .int r, .int (m + 1), .int sd])) := (Le.heap e e1).x.mutS gs
    have hs1 : (upd H1 s (.lst [.ref q, .int r, .int (m + 1), .int sd])) s = some (.lst [.ref q, .int r, .int (m + 1), .int sd]) := upd_same
    have hq1 : (upd H1 s (.lst [.ref q, .int r, .int (m + 1), .int sd])) q = some (.lst (cells.map V.int)) := by rw [upd_ne (Ne.symm hsq)]; exact e1 q _ hq
    generalize hH2 : upd H1 s (.lst [.ref q, .int r, .int (m + 1), .int sd]) = H2 at l1 hs1 hq1
    have hH2' : (upd H1 s (.lst (([V.ref q, .int r, .int m, .int sd]).set 2 (.int (m + 1))))) = H2 := hH2
    rw [hH2']
    refine q_cut (M := fun σ' H' => (∃ x, σ' = [some (.ref s), some (.int many), none, x, none]) ∧ LeX s q G H G H' ∧ ∃ (cells' : List Int) (r' sd' : Int), H' s = some (.lst [.ref q, .int r', .int (m + 1), .int sd']) ∧ H' q = some (.lst (cells'.map V.int)) ∧ cells'.length ≤ 63 ∧ 0 ≤ sd' ∧ sd' < 2147483647) ?_ ?_
    · have t1 : Ev (tOp (rIxL K) (tVar 0) (tC (.int 1))) [some (.ref s), some (.int many), none, none, none] H2 (.int r) := ev_op (ev_var rfl) ev_c (rv_ixL (sq_of hs1) rfl)
      have t0 : Ev (tOp (rIxL K) (tVar 0) (tC (.int 0))) [some (.ref s), some (.int many), none, none, none] H2 (.ref q) := ev_op (ev_var rfl) ev_c (rv_ixL (sq_of hs1) rfl)
      refine s_ifG (b := decide (V.int r = V.int 0) && !cells.isEmpty) (et_and (et_test (ev_op t1 ev_c (rv_eq rfl))) fun _ => et_test (ev_neNil t0 hq1)) (Ex.refl H2) (fun hb H3 l3 => ?_) (fun hb H3 l3 => ?_)
      · have hs3 := l3.h s _ hs1
        have hq3 := l3.h q _ hq1
        obtain ⟨c0, cs, rfl⟩ : ∃ c0 cs, cells = c0 :: cs := by
          cases cells with
          | nil => simp at hb
          | cons c cs => exact ⟨c, cs, rfl⟩
        have t0' : Ev (tOp (rIxL K) (tVar 0) (tC (.int 0))) [some (.ref s), some (.int many), none, none, none] H3 (.ref q) := ev_op (ev_var rfl) ev_c (rv_ixL (sq_of hs3) rfl)
        refine t0' H3 (Ex.refl H3) _ fun H4 e4 => ⟨Or.inl ⟨rfl, _, sq_of (e4 q _ hq3)⟩, ⟨q, _, 0, 0, .int c0, rfl, rfl, e4 q _ hq3, by decide, by decide, ?_, rfl, ?_⟩⟩
        · simp [seqIndex?]
        · have l4 : LeX s q G H G (upd H4 q (.lst ((c0 :: cs).map V.int |>.eraseIdx 0))) := ((l1.trans (Le.heap l1.e (l3.h.trans e4)).x).mutQ gq)
          have hs4 : (upd H4 q (.lst ((c0 :: cs).map V.int |>.eraseIdx 0))) s = some (.lst [.ref q, .int r, .int (m + 1), .int sd]) := by rw [upd_ne hsq]; exact e4 s _ hs3
          have hq4 : (upd H4 q (.lst ((c0 :: cs).map V.int |>.eraseIdx 0))) q = some (.lst (cs.map V.int)) := upd_same
          generalize hH5 : upd H4 q (.lst ((c0 :: cs).map V.int |>.eraseIdx 0)) = H5 at l4 hs4 hq4
          show tSeq _ _ _ _ H5
          have sdb : 0 ≤ (sd * 4099 + c0 + 13).fmod 2147483647 ∧ (sd * 4099 + c0 + 13).fmod 2147483647 < 2147483647 := ⟨Int.fmod_nonneg_of_pos _ (by decide), Int.fmod_lt_of_pos _ (by decide)⟩
          refine q_setL (j := 3) (v := .int ((sd * 4099 + c0 + 13).fmod 2147483647)) hs4 (ev_op (ev_int1 (ev_op (ev_op (ev_op (ev_op (ev_var (i := 0) rfl) ev_c (rv_ixL (sq_of hs4) rfl)) ev_c (rv_I (Or.inl (by omega)))) (ev_var (i := 3) rfl) rv_I0) ev_c rv_I0)) ev_c (rv_I (by decide))) (ev_var (i := 0) rfl) ev_c (by show 3 < 4; decide) fun H6 e6 => ?_
          have l6 : LeX s q G H G (upd H6 s (.lst [.ref q, .int r, .int (m + 1), .int ((sd * 4099 + c0 + 13).fmod 2147483647)])) := (l4.trans (Le.heap l4.e e6).x).mutS gs
          have hs6 : (upd H6 s (.lst [.ref q, .int r, .int (m + 1), .int ((sd * 4099 + c0 + 13).fmod 2147483647)])) s = some (.lst [.ref q, .int r, .int (m + 1), .int ((sd * 4099 + c0 + 13).fmod 2147483647)]) := upd_same
          have hq6 : (upd H6 s (.lst [.ref q, .int r, .int (m + 1), .int ((sd * 4099 + c0 + 13).fmod 2147483647)])) q = some (.lst (cs.map V.int)) := by rw [upd_ne (Ne.symm hsq)]; exact e6 q _ hq4
          show tIfS _ _ _ _ _ (upd H6 s (.lst [.ref q, .int r, .int (m + 1), .int ((sd * 4099 + c0 + 13).fmod 2147483647)]))
          generalize hH7 : upd H6 s (.lst [.ref q, .int r, .int (m + 1), .int ((sd * 4099 + c0 + 13).fmod 2147483647)]) = H7 at l6 hs6 hq6
          refine s_ifG (b := decide ((10 : Int) ^ (18 : Int).toNat ≤ c0)) (et_test (ev_op (ev_var (i := 3) rfl) (ev_op ev_c ev_c (rv_I ⟨by decide, by decide, by decide⟩)) rv_I0)) (Ex.refl H7) (fun hb H8 l8 => ?_) (fun hb H8 l8 => ?_)
          · have hs8 := l8.h s _ hs6
            have hq8 := l8.h q _ hq6
            refine s_setL (j := 1) (v := .int c0) hs8 (ev_var (i := 3) rfl) (ev_var (i := 0) rfl) ev_c (by show 1 < 4; decide) fun H9 e9 => ?_
            refine ⟨⟨_, rfl⟩, (l6.trans (Le.heap l6.e (l8.h.trans e9)).x).mutS gs, cs, c0, _, upd_same, ?_, by simp at hc; omega, sdb.1, sdb.2⟩
            rw [upd_ne (Ne.symm hsq)]
            exact e9 q _ hq8
          · exact ⟨⟨_, rfl⟩, l6.trans (Le.heap l6.e l8.h).x, cs, r, _, l8.h s _ hs6, l8.h q _ hq6, by simp at hc; omega, sdb.1, sdb.2⟩
      · exact ⟨⟨_, rfl⟩, l1.trans (Le.heap l1.e l3.h).x, cells, r, sd, l3.h s _ hs1, l3.h q _ hq1, hc, hsd0, hsd1⟩
    · rintro σ' H3 ⟨⟨x, rfl⟩, l3, cells', r', sd', hs3, hq3, hc3, hsd3, hsd3'⟩
      have t1 : Ev (tOp (rIxL K) (tVar 0) (tC (.int 1))) [some (.ref s), some (.int many), none, x, none] H3 (.int r') := ev_op (ev_var rfl) ev_c (rv_ixL (sq_of hs3) rfl)
      refine q_ifG (b := decide ((0 : Int) < r')) (et_test (ev_op t1 ev_c rv_I0)) (Ex.refl H3) (fun hb H4 l4 => ?_) (fun hb H4 l4 => ?_)
      · have hs4 := l4.h s _ hs3
        have hq4 := l4.h q _ hq3
        refine q_asgV (v := .int (r'.fmod many)) (ev_op (ev_int1 (ev_op (ev_var (i := 0) rfl) ev_c (rv_ixL (sq_of hs4) rfl))) (ev_var (i := 1) rfl) (rv_I (by omega))) (Ex.refl H4) fun H5 l5 => ?_
        have hs5 := l5.h s _ hs4
        have hq5 := l5.h q _ hq4
        refine q_setL (j := 1) (v := .int (r'.fdiv many)) hs5 (ev_op (ev_op (ev_var (i := 0) rfl) ev_c (rv_ixL (sq_of hs5) rfl)) (ev_var (i := 1) rfl) (rv_I ⟨by omega, by omega⟩)) (ev_var (i := 0) rfl) ev_c (by show 1 < 4; decide) fun H6 e6 => ?_
        refine s_ret (v := .int (r'.fmod many)) (ev_var (i := 4) rfl) fun H7 e7 => ?_
        have l7 := ((l3.trans (Le.heap l3.e ((l4.h.trans l5.h).trans e6)).x).mutS gs (o := .lst [.ref q, .int (r'.fdiv many), .int (m + 1), .int sd']))
        refine k (.int (r'.fmod many)) _ G H7 ⟨many, _, rfl, rfl, Int.fmod_nonneg_of_pos _ h0, Int.fmod_lt_of_pos _ h0⟩ (l7.trans (Le.heap l7.e e7).x) ⟨cells', r'.fdiv many, m + 1, sd', e7 s _ upd_same, ?_, hc3, by omega, by omega, hsd3, hsd3'⟩ (at_int.mpr rfl)
        refine e7 q _ ?_
        rw [upd_ne (Ne.symm hsq)]
        exact e6 q _ hq5
      · have hs4 := l4.h s _ hs3
        have hq4 := l4.h q _ hq3
        have a1 : 0 ≤ m + 1 := by omega
        have a2 : m + 1 ≤ 1000001 := by omega
        have b1 : 40503 * (m + 1) ≤ 40503 * 1000001 := by omega
        have b2 : (40503 * (m + 1)) * (m + 1) ≤ (40503 * 1000001) * 1000001 := Int.mul_le_mul b1 a2 a1 (by decide)
        have b3 : 0 ≤ (40503 * (m + 1)) * (m + 1) := Int.mul_nonneg (by omega) a1
        have M0 : 0 ≤ ((sd' + 7919 * (m + 1) + 104729) ^ (5 : Int).toNat).fmod 2147483629 := Int.fmod_nonneg_of_pos _ (by decide)
        have M1 : ((sd' + 7919 * (m + 1) + 104729) ^ (5 : Int).toNat).fmod 2147483629 < 2147483629 := Int.fmod_lt_of_pos _ (by decide)
        refine q_asgV (v := .int (((sd' + 7919 * (m + 1) + 104729) ^ (5 : Int).toNat).fmod 2147483629)) (ev_op (ev_int1 (ev_op (ev_op (ev_op (ev_op (ev_var (i := 0) rfl) ev_c (rv_ixL (sq_of hs4) rfl)) (ev_op ev_c (ev_op (ev_var (i := 0) rfl) ev_c (rv_ixL (sq_of hs4) rfl)) (rv_I (Or.inl (by decide)))) rv_I0) ev_c rv_I0) ev_c (rv_I ⟨by decide, by decide, by omega⟩))) ev_c (rv_I (by decide))) (Ex.refl H4) fun H5 l5 => ?_
        generalize ((sd' + 7919 * (m + 1) + 104729) ^ (5 : Int).toNat).fmod 2147483629 = M at M0 M1
        have hs5 := l5.h s _ hs4
        have hq5 := l5.h q _ hq4
        refine q_asgV (v := .int (M * 48271 + (40503 * (m + 1)) * (m + 1) + 29)) (ev_op (ev_op (ev_op (ev_var (i := 2) rfl) ev_c (rv_I (Or.inl (by omega)))) (ev_op (ev_op ev_c (ev_op (ev_var (i := 0) rfl) ev_c (rv_ixL (sq_of hs5) rfl)) (rv_I (Or.inl (by decide)))) (ev_op (ev_var (i := 0) rfl) ev_c (rv_ixL (sq_of hs5) rfl)) (rv_I (Or.inl (by omega)))) rv_I0) ev_c rv_I0) (Ex.refl H5) fun H6 l6 => ?_
        generalize hZ : (40503 * (m + 1)) * (m + 1) = Z at b2 b3
        refine s_ret (v := .int (((M * 48271 + Z + 29) ^ (3 : Int).toNat).fmod 1000000007 |>.fmod many)) (ev_op (ev_op (ev_int1 (ev_op (ev_var (i := 2) rfl) ev_c (rv_I ⟨by decide, by decide, by omega⟩))) ev_c (rv_I (by decide))) (ev_var (i := 1) rfl) (rv_I (by omega))) fun H7 e7 => ?_
        have hh := ((l4.h.trans l5.h).trans l6.h).trans e7
        exact k (.int _) _ G H7 ⟨many, _, rfl, rfl, Int.fmod_nonneg_of_pos _ h0, Int.fmod_lt_of_pos _ h0⟩ (l3.trans (Le.heap l3.e hh).x) ⟨cells', r', m + 1, sd', hh s _ hs3, hh q _ hq3, hc3, by omega, by omega, hsd3, hsd3'⟩ (at_int.mpr rfl)
end
end SR
set_option maxRecDepth 100000
set_option maxHeartbeats 4000000
namespace SR
open PySem PySem.Spec PyProof.Rows L2 Evl
section
variable {P : Program} {w : World} {K : PySem.W.Frag} {mg : Str → Option Value} {base : Heap} {ω : Type} {O : OI ω} {Ty : ω → Value}
/-- a call of a helper over the source -/
theorem x_call {G H : Hp} {s q : Addr} {n add i : Nat} {Pre : List (D ω) → Prop} {R : List (D ω) → D ω → Prop} {ta : TA} {σ : L2.St} {ds : List (D ω)} {E : XK} {Q : VK} (e : Ex G H) (gs : G s = none) (gq : G q = none) (spr : Spr H s q n) (hn : n + add ≤ 1000000) (hv : σ[i]? = some (some (.ref s)))
    (ha : EvDA K O ta σ G ds) (pre : Pre ds) (k : ∀ d v G2 H2, R ds d → LeX s q G H G2 H2 → Spr H2 s q (n + add) → At K O G2 d v → Q v H2) : tCall (SpX K O add Pre R) [] E (tCons (tVar i) ta) σ H Q :=
  ⟨.ref s, hv, ha H e _ fun vs G2 H2 l as => ⟨G2, s, q, n, ds, vs, by simp, l.e, l.gnone gs spr.sne, l.gnone gq spr.qne, spr.keep l.h (Nat.le_refl _), hn, as, pre, fun d v G3 H3 r l3 sp3 a => k d v G3 H3 r (l.x.trans l3) sp3 a⟩⟩
/-! ### _law_spring -/
def spSpring (K : PySem.W.Frag) : Sp := fun vs H Q _ => ∃ (a : Addr) (ns : List Int), vs = [.ref a] ∧ SqL K H a (ns.map V.int) ∧ ns.length ≤ 63 ∧ ∀ s q H', H s = none → H q = none → Ex H H' → Spr H' s q 0 → Q (.ref s) H'
abbrev _law_spring_S : Stmt := topS 103
abbrev _law_spring_N : List Str := ["_law_script"]
theorem _law_spring_sc : FnScope _law_spring_N ["_law_script"] (defScope _law_spring_S) := ⟨rfl, rfl, rfl, by decide +kernel, rfl, by decide +kernel, by decide +kernel⟩
theorem ok_spring {f : Addr} {fd : FuncData} (F : Fun K "_law_spring" "_law_spring" _law_spring_S f fd) (B : Bi mg) : FnOk P w K mg base CX0 1 f fd ["_law_script"] (spSpring K) := by
  refine F.ok _law_spring_sc (fun vs H Q E h => ?_) (fun cdv A outer s0 H vs Q E hr h => ?_)
  · obtain ⟨a, ns, rfl, _⟩ := h
    rfl
  · obtain ⟨a, ns, rfl, hs, hl, k⟩ := h
    refine ⟨_, (pss_one (ps_ret (pe_lst (pa_cons (pe_callTy call_list_of (by rfl) B.list (by decide +kernel) (pa_cons (pv 0) pa_nil)) (pa_cons pe_int (pa_cons pe_int (pa_cons pe_int pa_nil))))))), ?_⟩
    refine ⟨_, rfl, a, _, rfl, Or.inl hs, fun q hq => ⟨by show 4 ≤ sizeLine; decide, fun s hs' => ?_⟩⟩
    have hsq : s ≠ q := by intro z; subst z; rw [upd_same] at hs'; cases hs'
    have h0 : H s = none := by rw [upd_ne hsq] at hs'; exact hs'
    refine k s q _ h0 hq ((Ex.new hq).trans (Ex.new hs')) ⟨ns, 0, 0, 7, upd_same, ?_, hl, by decide, by decide, by decide, by decide⟩
    rw [upd_ne (Ne.symm hsq), upd_same]
/-! ### _law_pick -/
def pPick : List (D ω) → Prop := fun ds => ∃ l, ds = [.lst l] ∧ 0 < l.length ∧ l.length ≤ 1000
def rPick : List (D ω) → D ω → Prop := fun ds d => ∃ l, ds = [.lst l] ∧ d ∈ l
abbrev _law_pick_S : Stmt := topS 105
abbrev _law_pick_N : List Str := ["_law_spring_here", "_law_things"]
theorem _law_pick_sc : FnScope _law_pick_N ["_law_spring_here", "_law_things"] (defScope _law_pick_S) := ⟨rfl, rfl, rfl, by decide +kernel, rfl, by decide +kernel, by decide +kernel⟩
theorem ok_pick {f : Addr} {fd : FuncData} (F : Fun K "_law_pick" "_law_pick" _law_pick_S f fd) (B : Bi mg) (h__law_draw : DefOk P w K mg base 1 "_law_draw" ["_law_spring_here", "_law_many"] (SpX K O 1 pDraw rDraw)) : FnOk P w K mg base CX0 2 f fd ["_law_spring_here", "_law_things"] (SpX K O 1 pPick rPick) := by
  refine F.ok _law_pick_sc (fun vs H Q E h => ?_) (fun cdv A outer s0 H vs Q E hr h => ?_)
  · obtain ⟨G, s, q, n, ds, ws, rfl, e, gs, gq, spr, hn, as, ⟨l, rfl, h0, h1⟩, k⟩ := h
    show (V.ref s :: ws).length = 2
    rw [List.length_cons, as.len]
    rfl
  · obtain ⟨G, s, q, n, ds, ws, rfl, e, gs, gq, spr, hn, as, ⟨l, rfl, h0, h1⟩, k⟩ := h
    obtain ⟨v, r0, rfl, a, nn⟩ := atL_cons.mp as
    obtain rfl := atL_nil.mp nn
    refine ⟨_, (pss_one (ps_ret (pe_ixLK K (pv 1) (pe_callD h__law_draw (hr.mono (by first | decide | exact Nat.le_refl _)) (pa_cons (pv 0) (pa_cons (pe_callB (call_lenK K) (by rfl) B.len (by decide +kernel) (pa_cons (pv 1) pa_nil)) pa_nil))) (fun _ _ => rfl)))), ?_⟩
    have hv : EvD K O (tVar 1) [some (.ref s), some v] G (.lst l) := ed_var rfl a
    refine ⟨v, rfl, x_call (i := 0) e gs gq spr hn rfl (eda_cons (ed_of (len_d hv rfl) (at_int.mpr rfl)) eda_nil) ⟨_, rfl, by show (0 : Int) < (l.length : Int); omega, by show (l.length : Int) < 1073741824; omega⟩ fun d v2 G2 H2 hR l2 sp2 a2 => ?_⟩
    obtain ⟨many, x, hm, rfl, hx0, hx1⟩ := hR
    obtain rfl := at_int.mp a2
    have hm' : (l.length : Int) = many := by
      have h2 := (List.cons.inj hm).1
      injection h2
    obtain ⟨p, vs', rfl, hsl, asl⟩ := at_lst.mp a
    have hxn : x.toNat < l.length := by omega
    obtain ⟨u, hu1, hu2⟩ := asl.get' (List.getElem?_eq_getElem hxn)
    refine ⟨p, vs', x, u, rfl, rfl, sq_of ((l2.g.trans l2.e) _ _ hsl), ?_, k _ u G2 H2 ⟨l, rfl, List.getElem_mem hxn⟩ l2 sp2 (hu2.mono l2.g)⟩
    have h3 := atI_nat hu1
    rwa [show ((x.toNat : Nat) : Int) = x by omega] at h3
/-! ### _law_prime, _law_other -/
def pPrime : List (D ω) → Prop := fun ds => ds = []
def rPrime : List (D ω) → D ω → Prop := fun ds d => ∃ p, d = .int p ∧ primes.contains p = true
abbrev _law_prime_S : Stmt := topS 112
abbrev _law_prime_N : List Str := ["_law_spring_here"]
theorem _law_prime_sc : FnScope _law_prime_N ["_law_spring_here"] (defScope _law_prime_S) := ⟨rfl, rfl, rfl, by decide +kernel, rfl, by decide +kernel, by decide +kernel⟩
theorem ok_prime {f : Addr} {fd : FuncData} (F : Fun K "_law_prime" "_law_prime" _law_prime_S f fd) (B : Bi mg) (h__law_pick : DefOk P w K mg base 2 "_law_pick" ["_law_spring_here", "_law_things"] (SpX K O 1 pPick rPick)) : FnOk P w K mg base CX0 3 f fd ["_law_spring_here"] (SpX K O 1 pPrime rPrime) := by
  refine F.ok _law_prime_sc (fun vs H Q E h => ?_) (fun cdv A outer s0 H vs Q E hr h => ?_)
  · obtain ⟨G, s, q, n, ds, ws, rfl, e, gs, gq, spr, hn, as, rfl, k⟩ := h
    rw [atL_nil.mp as]
    rfl
  · obtain ⟨G, s, q, n, ds, ws, rfl, e, gs, gq, spr, hn, as, rfl, k⟩ := h
    obtain rfl := atL_nil.mp as
    refine ⟨_, (pss_one (ps_ret (pe_callD h__law_pick (hr.mono (by first | decide | exact Nat.le_refl _)) (pa_cons (pv 0) (pa_cons (pe_lst (pa_cons pe_int (pa_cons pe_int (pa_cons pe_int (pa_cons pe_int pa_nil))))) pa_nil))))), ?_⟩
    refine x_call (i := 0) e gs gq spr hn rfl (eda_cons (ed_lst (ds := [.int 2, .int 3, .int 5, .int 7]) (eda_cons (ed_of ev_c (at_int.mpr rfl)) (eda_cons (ed_of ev_c (at_int.mpr rfl)) (eda_cons (ed_of ev_c (at_int.mpr rfl)) (eda_cons (ed_of ev_c (at_int.mpr rfl)) eda_nil)))) (by show 4 ≤ 100000; decide)) eda_nil) ⟨_, rfl, by show 0 < 4; decide, by show 4 ≤ 1000; decide⟩ fun d v2 G2 H2 hR l2 sp2 a2 => ?_
    obtain ⟨l, hl, hd⟩ := hR
    obtain rfl := (D.lst.inj (List.cons.inj hl).1)
    refine k d v2 G2 H2 ?_ l2 sp2 a2
    simp at hd
    rcases hd with rfl | rfl | rfl | rfl
    · exact ⟨2, rfl, by decide⟩
    · exact ⟨3, rfl, by decide⟩
    · exact ⟨5, rfl, by decide⟩
    · exact ⟨7, rfl, by decide⟩
def pOther : List (D ω) → Prop := fun ds => ∃ p, ds = [.int p] ∧ primes.contains p = true
def rOther : List (D ω) → D ω → Prop := fun ds d => ∃ p p', ds = [.int p] ∧ d = .int p' ∧ primes.contains p' = true ∧ p' ≠ p
abbrev _law_other_S : Stmt := topS 113
abbrev _law_other_N : List Str := ["_law_spring_here", "_law_p", "_law_one"]
theorem _law_other_sc : FnScope _law_other_N ["_law_spring_here", "_law_p"] (defScope _law_other_S) := ⟨rfl, rfl, rfl, by decide +kernel, rfl, by decide +kernel, by decide +kernel⟩
theorem ok_other {f : Addr} {fd : FuncData} (F : Fun K "_law_other" "_law_other" _law_other_S f fd) (B : Bi mg) (h__law_pick : DefOk P w K mg base 2 "_law_pick" ["_law_spring_here", "_law_things"] (SpX K O 1 pPick rPick)) : FnOk P w K mg base CX0 3 f fd ["_law_spring_here", "_law_p"] (SpX K O 1 pOther rOther) := by
  refine F.ok _law_other_sc (fun vs H Q E h => ?_) (fun cdv A outer s0 H vs Q E hr h => ?_)
  · obtain ⟨G, s, q, n, ds, ws, rfl, e, gs, gq, spr, hn, as, ⟨p, rfl, hp⟩, k⟩ := h
    show (V.ref s :: ws).length = 2
    rw [List.length_cons, as.len]
    rfl
  · obtain ⟨G, s, q, n, ds, ws, rfl, e, gs, gq, spr, hn, as, ⟨p, rfl, hp⟩, k⟩ := h
    obtain ⟨v, r0, rfl, a, nn⟩ := atL_cons.mp as
    obtain rfl := atL_nil.mp nn
    obtain rfl := at_int.mp a
    refine ⟨_, (pss_one (ps_ret (pe_callD h__law_pick (hr.mono (by first | decide | exact Nat.le_refl _)) (pa_cons (pv 0) (pa_cons (pe_lc (own := [("_law_one", 2)]) rfl _law_other_sc.nd (pi_list (pe_lst (pa_cons pe_int (pa_cons pe_int (pa_cons pe_int (pa_cons pe_int pa_nil)))))) (blkOk_by (N := _law_other_N) (sc := defScope _law_other_S) (by decide +kernel)) (fun _ _ _ _ _ => (pg_name (i := 2) _law_other_sc.nd rfl (Or.inl rfl))) (fun _ _ _ _ _ => by exact pts_one (pt_cmpR op_ne (pv 2) (pv 1) (nomark _))) (fun _ _ _ _ _ => by exact (pv 2))) pa_nil))))), ?_⟩
    have hl := ed_lc (K := K) (O := O) (te := tVar 2) (tt := tTest (tOp rNe (tVar 2) (tVar 1))) (vs := [2]) (g := gName 2) (fun d => match d with | .int o => !decide (V.int o = V.int p) | _ => false) (fun d => d)
      (src_list (tl := tLst (tCons (tC (.int 2)) (tCons (tC (.int 3)) (tCons (tC (.int 5)) (tCons (tC (.int 7)) tNil))))) (σ := [some (.ref s), some (.int p), none]) (G := G) (ed_lst (ds := [.int 2, .int 3, .int 5, .int 7]) (eda_cons (ed_of ev_c (at_int.mpr rfl)) (eda_cons (ed_of ev_c (at_int.mpr rfl)) (eda_cons (ed_of ev_c (at_int.mpr rfl)) (eda_cons (ed_of ev_c (at_int.mpr rfl)) eda_nil)))) (by show 4 ≤ 100000; decide))) (by show 4 ≤ 40000; decide) ?_
    · rw [List.map_id'] at hl
      have hcase : p = 2 ∨ p = 3 ∨ p = 5 ∨ p = 7 := by
        have h1 : p ∈ primes := List.contains_iff_mem.mp hp
        unfold primes at h1
        simpa using h1
      refine x_call (i := 0) e gs gq spr hn rfl (eda_cons hl eda_nil) ⟨_, rfl, ?_, Nat.le_trans (List.length_filter_le ..) (by show 4 ≤ 1000; decide)⟩ fun d v2 G2 H2 hR l2 sp2 a2 => ?_
      · rcases hcase with rfl | rfl | rfl | rfl <;> simp [List.filter_cons]
      · obtain ⟨l, hl', hd⟩ := hR
        obtain rfl := (D.lst.inj (List.cons.inj hl').1)
        refine k d v2 G2 H2 ?_ l2 sp2 a2
        have hd2 := List.mem_filter.mp hd
        have hd3 := hd2.1
        simp at hd3
        rcases hd3 with rfl | rfl | rfl | rfl
        · exact ⟨p, 2, rfl, rfl, by decide, by intro z; subst z; simp at hd2⟩
        · exact ⟨p, 3, rfl, rfl, by decide, by intro z; subst z; simp at hd2⟩
        · exact ⟨p, 5, rfl, rfl, by decide, by intro z; subst z; simp at hd2⟩
        · exact ⟨p, 7, rfl, rfl, by decide, by intro z; subst z; simp at hd2⟩
    · intro i d x Gi Hi hd eg eh ad Q' hQ
      have hmem := List.mem_of_getElem? hd
      obtain ⟨o, rfl⟩ : ∃ o, d = D.int o := by
        simp at hmem
        rcases hmem with rfl | rfl | rfl | rfl <;> exact ⟨_, rfl⟩
      obtain rfl := at_int.mp ad
      exact hQ _ Hi (Ex.refl _) rfl (et_test (ev_op (ev_var rfl) (ev_var rfl) (rv_ne rfl))) fun _ => ed_var rfl (at_int.mpr rfl)
end
end SR
set_option maxRecDepth 100000
set_option maxHeartbeats 4000000
namespace SR
open PySem PySem.Spec PyProof.Rows L2 Evl
section
variable {P : Program} {w : World} {K : PySem.W.Frag} {mg : Str → Option Value} {base : Heap} {ω : Type} {O : OI ω} {Ty : ω → Value}
/-- where a helper over the source stands: what it knows, what the source holds -/
structure At2 (s q : Addr) (G H : Hp) (n : Nat) : Prop where
  e : Ex G H
  gs : G s = none
  gq : G q = none
  spr : Spr H s q n
theorem At2.go {s q : Addr} {G H G2 H2 : Hp} {n k : Nat} (a : At2 s q G H n) (l : LeX s q G H G2 H2) (sp : Spr H2 s q k) : At2 s q G2 H2 k := ⟨l.e, l.gnone a.gs a.spr.sne, l.gnone a.gq a.spr.qne, sp⟩
theorem At2.le {s q : Addr} {G H G2 H2 : Hp} {n : Nat} (a : At2 s q G H n) (l : Le G H G2 H2) : At2 s q G2 H2 n := a.go l.x (a.spr.keep l.h (Nat.le_refl _))
abbrev cDraw (K : PySem.W.Frag) (O : OI ω) (E : XK) (ta : TA) : TE := tCall (SpX K O 1 pDraw rDraw) [] E (tCons (tVar 0) ta)
theorem x_draw {G H : Hp} {s q : Addr} {n : Nat} {ta : TA} {σ : L2.St} {many : Int} {E : XK} {Q : VK} (a : At2 s q G H n) (hn : n + 1 ≤ 1000000) (hv : σ[0]? = some (some (.ref s))) (ha : EvDA K O ta σ G [.int many]) (h0 : 0 < many) (h1 : many < 1073741824)
    (k : ∀ x G2 H2, 0 ≤ x → x < many → LeX s q G H G2 H2 → At2 s q G2 H2 (n + 1) → Q (.int x) H2) : cDraw K O E ta σ H Q :=
  x_call a.e a.gs a.gq a.spr hn hv ha ⟨many, rfl, h0, h1⟩ fun d v G2 H2 ⟨m', x, hm, hd, hx0, hx1⟩ l sp av => by
    subst hd
    obtain rfl := at_int.mp av
    have hm' : many = m' := D.int.inj (List.cons.inj hm).1
    exact k x G2 H2 hx0 (by omega) l (a.go l sp)
theorem eda_int {i : Int} {te : TE} {σ : L2.St} {G : Hp} (h : Ev te σ G (.int i)) : EvDA K O (tCons te tNil) σ G [.int i] := eda_cons (ed_of h (at_int.mpr rfl)) eda_nil
/-- x = draw(many) - c -/
theorem q_drawSub {G H : Hp} {s q : Addr} {n j : Nat} {ta : TA} {σ : L2.St} {many c : Int} {E : XK} {De : Ends} {tz : TS} (a : At2 s q G H n) (hn : n + 1 ≤ 1000000) (hv : σ[0]? = some (some (.ref s))) (ha : EvDA K O ta σ G [.int many]) (h0 : 0 < many) (h1 : many < 1073741824)
    (k : ∀ x G2 H2, LeX s q G H G2 H2 → At2 s q G2 H2 (n + 1) → tz De (σ.set j (some (.int x))) H2) : tSeq (tAsg (tOp (rI0 fun i j => V.int (i - j)) (cDraw K O E ta) (tC (.int c))) (gName j)) tz De σ H :=
  x_draw a hn hv ha h0 h1 fun x G2 H2 hx0 hx1 l a2 => ⟨x, c, rfl, rfl, k (x - c) G2 H2 l a2⟩
/-- if draw(many) == 0: t -/
theorem if_draw {G H : Hp} {s q : Addr} {n : Nat} {ta : TA} {σ : L2.St} {many c : Int} {E : XK} {De : Ends} {tu tw : TS} (a : At2 s q G H n) (hn : n + 1 ≤ 1000000) (hv : σ[0]? = some (some (.ref s))) (ha : EvDA K O ta σ G [.int many]) (h0 : 0 < many) (h1 : many < 1073741824)
    (k1 : ∀ G2 H2, LeX s q G H G2 H2 → At2 s q G2 H2 (n + 1) → tu De σ H2) (k2 : ∀ G2 H2, LeX s q G H G2 H2 → At2 s q G2 H2 (n + 1) → tw De σ H2) : tIfS (tTest (tOp rEq (cDraw K O E ta) (tC (.int c)))) tu tw De σ H :=
  x_draw a hn hv ha h0 h1 fun x G2 H2 hx0 hx1 l a2 => ⟨rfl, _, rfl, by
    by_cases h : V.int x = V.int c
    · rw [decide_eq_true h]
      show (if true = true then tu De σ H2 else tw De σ H2)
      rw [if_pos rfl]
      exact k1 G2 H2 l a2
    · rw [decide_eq_false h]
      show (if false = true then tu De σ H2 else tw De σ H2)
      rw [if_neg Bool.false_ne_true]
      exact k2 G2 H2 l a2⟩
/-- x = pick([ints]) -/
theorem s_pickI {G H : Hp} {s q : Addr} {n j : Nat} {ta : TA} {σ : L2.St} {ns : List Int} {E : XK} {De : Ends} (a : At2 s q G H n) (hn : n + 1 ≤ 1000000) (hv : σ[0]? = some (some (.ref s))) (ha : EvDA K O ta σ G [.lst (ns.map D.int)]) (h0 : 0 < ns.length) (h1 : ns.length ≤ 1000)
    (k : ∀ x G2 H2, x ∈ ns → LeX s q G H G2 H2 → At2 s q G2 H2 (n + 1) → De.nx (σ.set j (some (.int x))) H2) : tAsg (tCall (SpX K O 1 pPick rPick) [] E (tCons (tVar 0) ta)) (gName j) De σ H :=
  x_call a.e a.gs a.gq a.spr hn hv ha ⟨_, rfl, by rw [List.length_map]; exact h0, by rw [List.length_map]; exact h1⟩ fun d v G2 H2 ⟨l', hl, hd⟩ l sp av => by
    obtain rfl := D.lst.inj (List.cons.inj hl).1
    obtain ⟨x, hx, rfl⟩ := List.mem_map.mp hd
    obtain rfl := at_int.mp av
    exact k x G2 H2 hx l (a.go l sp)
end
end SR
set_option maxRecDepth 100000
set_option maxHeartbeats 4000000
namespace SR
open PySem PySem.Spec PyProof.Rows L2 Evl
section
variable {P : Program} {w : World} {K : PySem.W.Frag} {mg : Str → Option Value} {base : Heap} {ω : Type} {O : OI ω} {Ty : ω → Value}
/-! ### _law_held -/
theorem step_pos {p : Int} (hp : 0 < p) {m : List (Int × Int)} {q : Int × Int} (h : ∀ o c, getI m o = some c → 0 ≤ c ∧ c < p) : ∀ o c, getI (step p m q) o = some c → 0 ≤ c ∧ c < p := by
  intro o c
  unfold step
  rw [getI_put]
  by_cases ho : o = q.1
  · rw [if_pos ho]
    intro e
    obtain rfl := Option.some.inj e
    exact ⟨Int.fmod_nonneg_of_pos _ hp, Int.fmod_lt_of_pos _ hp⟩
  · rw [if_neg ho]
    exact h o c
theorem sums_pos {p : Int} (hp : 0 < p) : ∀ {rows m : List (Int × Int)}, (∀ o c, getI m o = some c → 0 ≤ c ∧ c < p) → ∀ o c, getI (rows.foldl (step p) m) o = some c → 0 ≤ c ∧ c < p
  | [], m, h => h
  | q :: r, m, h => sums_pos hp (rows := r) (m := step p m q) (step_pos hp h)
theorem coef_pos {p : Int} (hp : 0 < p) {rows : List (Int × Int)} {o : Int} : 0 ≤ coef p rows o ∧ coef p rows o < p := by
  unfold coef
  cases h : getI (sums p rows) o with
  | none => exact ⟨Int.le_refl 0, hp⟩
  | some c => exact sums_pos hp (rows := rows) (m := []) (fun o c e => by cases e) o c h
def rHeld : List (D ω) → D ω → Prop := fun ds r => ∃ (p : Int) (rows : List (Int × Int)), ds = [.int p, .lst (rows.map pairD)] ∧ 0 < p ∧ rows.length ≤ 30000 ∧ r = .dic (coll p rows)
abbrev _law_held_S : Stmt := topS 107
abbrev _law_held_N : List Str := ["_law_prime_here", "_law_terms", "_law_sums", "_law_found", "_law_offset", "_law_coefficient", "_law_k"]
theorem _law_held_sc : FnScope _law_held_N ["_law_prime_here", "_law_terms"] (defScope _law_held_S) := ⟨rfl, rfl, rfl, by decide +kernel, rfl, by decide +kernel, by decide +kernel⟩
theorem ok_held {f : Addr} {fd : FuncData} (F : Fun K "_law_held" "_law_held" _law_held_S f fd) (B : Bi mg) : FnOk P w K mg base CX0 1 f fd ["_law_prime_here", "_law_terms"] (SpD K O rHeld) := by
  refine F.ok _law_held_sc (fun vs H Q E h => ?_) (fun cdv A outer s0 H vs Q E hr h => ?_)
  · obtain ⟨G, ds, d, e, as, ⟨p, rows, rfl, _⟩, k⟩ := h
    exact as.len
  · obtain ⟨G, ds, d, e, as, ⟨p, rows, rfl, hp, hz, rfl⟩, k⟩ := h
    obtain ⟨v0, r, rfl, a0, n⟩ := atL_cons.mp as
    obtain rfl := at_int.mp a0
    obtain ⟨v, r, rfl, a, n⟩ := atL_cons.mp n
    obtain rfl := atL_nil.mp n
    have hu := hu_of hr
    refine ⟨_, (pss_cons (ps_par (i := 2) (j := 3) (by rfl) _law_held_sc.nd rfl rfl (by decide) rfl rfl (pa_cons pe_dnewK (pa_cons pe_dnewK pa_nil)) (by rfl))
    (pss_cons (ps_for PassesOwn.never rfl (pi_list (pv 1)) (pg_tupK (k := 2) K rfl (pgs_cons (pg_name (i := 4) _law_held_sc.nd rfl (Or.inl rfl)) (pgs_cons (pg_name (i := 5) _law_held_sc.nd rfl (Or.inl rfl)) pgs_nil))) (pss_one (ps_asg (pe_op op_modN (pe_callTy call_int1 (by rfl) B.int (by decide +kernel) (pa_cons (pe_op op_add (pe_dget2 (by exact hu) (pv 2) (pv 4) pe_int ⟨rfl, rfl, rfl, rfl⟩) (pv 5)) pa_nil)) (pv 0)) (pg_sub (pv 2) (pv 4) (set_dict (by exact hu))))))
    (pss_cons (ps_for PassesOwn.never rfl (pi_list (pe_callB cr_sortedI (by rfl) B.sorted (by decide +kernel) (pa_cons (pe_lock (pe_lc (own := [("_law_k", 6)]) rfl _law_held_sc.nd (pi_keys (pv 2)) (blkOk_by (N := _law_held_N) (sc := defScope _law_held_S) (by decide +kernel)) (fun _ _ _ _ _ => (pg_name (i := 6) _law_held_sc.nd rfl (Or.inl rfl))) (fun _ _ _ _ _ => pts_nil) (fun _ _ _ _ _ => by exact (pe_callTy call_int1 (by rfl) B.int (by decide +kernel) (pa_cons (pv 6) pa_nil))))) pa_nil))) (pg_name (i := 4) _law_held_sc.nd rfl (Or.inl rfl)) (pss_one (ps_if (pt_cmpR op_gt (pe_dget (by exact hu) (pv 2) (pv 4) (fun _ _ => rfl)) pe_int (nomark _)) (pss_one (ps_asg (pe_dget (by exact hu) (pv 2) (pv 4) (fun _ _ => rfl)) (pg_sub (pv 3) (pv 4) (set_dict (by exact hu))))) pss_nil)))
    (pss_one (ps_ret (pv 3)))))), ?_⟩
    refine fun q hq => fun q2 hq2 => ⟨_, _, rfl, ?_⟩
    have hqq : q2 ≠ q := by intro z; subst z; rw [upd_same] at hq2; cases hq2
    have hq2' : H q2 = none := by rw [upd_ne hqq] at hq2; exact hq2
    have l1 : Le G H G (upd (upd H q (.dK [])) q2 (.dK [])) := (Le.newM e hq).mut hq2' (none_of_ex e hq2')
    have e1 := l1.e
    have h1q : (upd (upd H q (.dK [])) q2 (.dK [])) q = some (.dK []) := by rw [upd_ne (Ne.symm hqq), upd_same]
    have h1q2 : (upd (upd H q (.dK [])) q2 (.dK [])) q2 = some (.dK []) := upd_same
    generalize hH1 : upd (upd H q (.dK [])) q2 (.dK []) = H1 at l1 e1 h1q h1q2
    have src : Src K O (iList K (tVar 1)) [some (.int p), some v, some (.ref q), some (.ref q2), none, none, none] G (rows.map pairD) := src_list (ed_var rfl a)
    show tSeq _ _ _ _ H1
    refine q_forS src e1 (fun i σ' G' H' => Le G H G' H' ∧ (∃ x y, σ' = [some (.int p), some v, some (.ref q), some (.ref q2), x, y, none]) ∧ H' q = some (.dK (kvI (sums p (rows.take i)))) ∧ H' q2 = some (.dK []) ∧ G' q = none ∧ G' q2 = none)
      (fun G0 H0 l0 => ⟨l1.trans l0, ⟨_, _, rfl⟩, l0.h q _ h1q, l0.h q2 _ h1q2, l0.gnone (none_of_ex e hq) (by rw [h1q]; exact fun z => nomatch z), l0.gnone (none_of_ex e hq2') (by rw [h1q2]; exact fun z => nomatch z)⟩) ?_ ?_
    · intro G0 i d x σ' Gi Hi Gi' Hi' e0 hd e1 e2 pv l' ad N hN
      obtain ⟨p1, ⟨x0, y0, rfl⟩, p3, p4, p5, p6⟩ := pv
      have hil : i < rows.length := by
        have := (List.getElem?_eq_some_iff.mp hd).1
        rw [List.length_map] at this
        exact this
      obtain ⟨⟨o, c⟩, hq2r⟩ : ∃ x, rows[i]? = some x := ⟨_, List.getElem?_eq_getElem hil⟩
      rw [List.getElem?_map, hq2r] at hd
      obtain rfl := (Option.some.inj hd).symm
      have h3 : Hi' q = some (.dK (kvI (sums p (rows.take i)))) := l'.h q _ p3
      have h4 : Hi' q2 = some (.dK []) := l'.h q2 _ p4
      have g3 : Gi' q = none := l'.gnone p5 (by rw [p3]; exact fun z => nomatch z)
      have g4 : Gi' q2 = none := l'.gnone p6 (by rw [p4]; exact fun z => nomatch z)
      refine tg_pair ad l'.e fun x1 x2 a1 a2 => ?_
      obtain rfl := at_int.mp a1
      obtain rfl := at_int.mp a2
      refine s_setD h3 (c := ((getI (sums p (rows.take i)) o).getD 0 + c).fmod p) (o := o) (ev_op (ev_int1 (ev_op (ev_dget2 (ev_var (i := 2) rfl) h3 (ev_var (i := 4) rfl) ev_c) (ev_var (i := 5) rfl) rv_I0)) (ev_var (i := 0) rfl) (rv_I (by omega))) (ev_var (i := 2) rfl) (ev_var (i := 4) rfl) ?_ fun H4 e4 => ?_
      · have h5 := sums_len (p := p) (rows := rows.take i) (m := [])
        have h6 : (rows.take i).length ≤ rows.length := by rw [List.length_take]; omega
        show (sums p (rows.take i)).length < 100000
        unfold sums
        simp only [List.length_nil] at h5
        omega
      · have lm := Le.mut (o := .dK (kvI (putI (sums p (rows.take i)) o (((getI (sums p (rows.take i)) o).getD 0 + c).fmod p)))) (p1.trans (l'.trans (Le.heap l'.e e4))) hq g3
        refine hN _ Gi' _ (Ex.refl _) lm.e ⟨lm, ⟨_, _, rfl⟩, ?_, ?_, g3, g4⟩
        · rw [sums_more hq2r]
          exact upd_same
        · rw [upd_ne hqq]
          exact e4 q2 _ h4
    · intro σ' G' H' e1 e2 pv
      obtain ⟨p1, ⟨x0, y0, rfl⟩, p3, p4, p5, p6⟩ := pv
      rw [List.length_map, List.take_length] at p3
      have hml : (sums p rows).length ≤ 30000 := by
        have h5 := sums_len (p := p) (rows := rows) (m := [])
        simp only [List.length_nil] at h5
        show (rows.foldl (step p) []).length ≤ 30000
        omega
      have lf := Le.fix e p1 hq p3
      have hm : (upd G' q (.dK (kvI (sums p rows)))) q = some (.dK (kvI (sums p rows))) := upd_same
      have gf2 : (upd G' q (.dK (kvI (sums p rows)))) q2 = none := by rw [upd_ne hqq]; exact p6
      generalize hGf : upd G' q (.dK (kvI (sums p rows))) = Gf at lf hm gf2
      have ho : EvD K O (tLockE (tLc (iKeys (tVar 2)) (gName 6) tYes (tCB (fun xs H Q => (∃ i, xs = [V.int i] ∧ Q (.int i) H) ∨ ∃ k, xs = [V.bl k] ∧ Q (.int (if k then 1 else 0)) H) (tCons (tVar 6) tNil)) [6])) [some (.int p), some v, some (.ref q), some (.ref q2), x0, y0, none] Gf (.lst (((sums p rows).map (·.1)).map D.int)) := by
        refine ed_lock hm True.intro ⟨_, rfl⟩ (by show noObjL _ = true; exact noObj_ints) fun od => ?_
        have h7 := ed_lc (K := K) (O := O) (te := tCB (fun xs H Q => (∃ i, xs = [V.int i] ∧ Q (.int i) H) ∨ ∃ k, xs = [V.bl k] ∧ Q (.int (if k then 1 else 0)) H) (tCons (tVar 6) tNil)) (tt := tYes) (vs := [6]) (g := gName 6) (fun _ => true) (fun d => d) (src_keys (O := O) (td := tVar 2) (σ := [some (.int p), some v, some (.ref q), some (.ref q2), x0, y0, none]) (ev_var rfl) (upd_same (a := q) (o := .frz od (.dK (kvI (sums p rows)))) (H := Gf))) (by rw [List.length_map]; exact Nat.le_trans hml (by omega)) ?_
        · have e8 : (((sums p rows).map fun q => (D.int q.1 : D ω)).filter fun _ => true).map (fun d => d) = ((sums p rows).map (·.1)).map D.int := by
            rw [List.filter_eq_self.mpr (fun _ _ => rfl), List.map_id', List.map_map]
            rfl
          rw [e8] at h7
          exact h7
        · intro i d x Gi Hi hd eg eh ad Q' hQ
          obtain ⟨w, rfl⟩ : ∃ w, d = D.int w := by
            have hi : i < (sums p rows).length := by
              have := (List.getElem?_eq_some_iff.mp hd).1
              rw [List.length_map] at this
              exact this
            rw [List.getElem?_map, List.getElem?_eq_getElem hi] at hd
            exact ⟨_, (Option.some.inj hd).symm⟩
          obtain rfl := at_int.mp ad
          exact hQ _ Hi (Ex.refl _) rfl et_yes fun _ => ed_of (ev_int1 (ev_var rfl)) (at_int.mpr rfl)
      have hsnd : (srt ((sums p rows).map (·.1))).Nodup := srt_perm.nodup_iff.mpr (sums_nd (rows := rows) (m := []) List.nodup_nil)
      refine q_forS (src_list (ed_sorted ho)) lf.e (fun i σ' G2 H2 => Le G H G2 H2 ∧ (∃ x y, σ' = [some (.int p), some v, some (.ref q), some (.ref q2), x, y, none]) ∧ G2 q = some (.dK (kvI (sums p rows))) ∧ H2 q2 = some (.dK (kvI ((((srt ((sums p rows).map (·.1))).take i).filter fun o => coef p rows o != 0).map fun o => (o, coef p rows o)))) ∧ G2 q2 = none)
        (fun G0 H0 l0 => ⟨lf.trans l0, ⟨_, _, rfl⟩, l0.g q _ hm, l0.h q2 _ p4, l0.gnone gf2 (by rw [p4]; exact fun z => nomatch z)⟩) ?_ ?_
      · intro G0 i d x σ' Gi Hi Gi' Hi' e0 hd e1 e2 pv l' ad N hN
        obtain ⟨p1, ⟨x0, y0, rfl⟩, p3, p4, p5⟩ := pv
        have hil : i < (srt ((sums p rows).map (·.1))).length := by
          have := (List.getElem?_eq_some_iff.mp hd).1
          rw [List.length_map] at this
          exact this
        obtain ⟨o, hoi⟩ : ∃ o, (srt ((sums p rows).map (·.1)))[i]? = some o := ⟨_, List.getElem?_eq_getElem hil⟩
        rw [List.getElem?_map, hoi] at hd
        obtain rfl := (Option.some.inj hd).symm
        obtain rfl := at_int.mp ad
        have hmem : o ∈ (sums p rows).map (·.1) := srt_perm.mem_iff.mp (List.mem_of_getElem? hoi)
        obtain ⟨c, hc⟩ := Option.isSome_iff_exists.mp (getI_some.mpr hmem)
        have hco : coef p rows o = c := by unfold coef; rw [hc]; rfl
        have hcp := coef_pos hp (rows := rows) (o := o)
        rw [hco] at hcp
        have hg := l'.g q _ p3
        have hH2 := l'.h q2 _ p4
        have hG2 : Gi' q2 = none := l'.gnone p5 (by rw [p4]; exact fun z => nomatch z)
        have tk := take_snoc hoi
        have hg' : Ev (tDGet (tVar 2) (tVar 4)) [some (.int p), some v, some (.ref q), some (.ref q2), some (.int o), y0, none] Gi' (.int c) := ev_dget (ev_var rfl) hg (ev_var rfl) hc
        refine s_ifG (b := decide ((0 : Int) < c)) (et_test (ev_op hg' ev_c rv_I0)) l'.e (fun hb H3 l3 => ?_) (fun hb H3 l3 => ?_)
        · have hc0 : (coef p rows o != 0) = true := by
            rw [hco]
            have := of_decide_eq_true hb
            simp
            omega
          refine s_setD (l3.h q2 _ hH2) (c := c) (o := o) (hg'.mono l3.e) (ev_var (i := 3) rfl) (ev_var (i := 4) rfl) ?_ fun H4 e4 => ?_
          · rw [List.length_map]
            refine Nat.lt_of_le_of_lt (List.length_filter_le ..) ?_
            rw [List.length_take, srt_perm.length_eq, List.length_map]
            omega
          · have lm := Le.mut (o := .dK (kvI (putI ((((srt ((sums p rows).map (·.1))).take i).filter fun o => coef p rows o != 0).map fun o => (o, coef p rows o)) o c))) (p1.trans (l'.trans (l3.trans (Le.heap l3.e e4)))) hq2' hG2
            refine hN _ Gi' _ (Ex.refl _) lm.e ⟨lm, ⟨_, _, rfl⟩, hg, ?_, hG2⟩
            rw [upd_same, putI_new, tk, List.filter_append, List.filter_cons, if_pos hc0, List.filter_nil, List.map_append]
            · show some (HO.dK (kvI (_ ++ [(o, c)]))) = some (HO.dK (kvI (_ ++ [(o, coef p rows o)])))
              rw [hco]
            · rw [nd_map_fst]
              intro hz
              have hz2 := (List.mem_filter.mp hz).1
              have hnd := hsnd
              rw [← List.take_append_drop (i + 1) (srt ((sums p rows).map (·.1))), tk] at hnd
              have h1 := (List.nodup_append.mp hnd).1
              exact (List.nodup_append.mp h1).2.2 o hz2 o (List.mem_singleton.mpr rfl) rfl
        · have hc0 : (coef p rows o != 0) = false := by
            rw [hco]
            have := of_decide_eq_false hb
            simp
            omega
          refine hN _ Gi' H3 (Ex.refl _) l3.e ⟨p1.trans (l'.trans l3), ⟨_, _, rfl⟩, hg, ?_, hG2⟩
          rw [tk, List.filter_append, List.filter_cons, if_neg (by rw [hc0]; decide), List.filter_nil, List.append_nil]
          exact l3.h q2 _ hH2
      · intro σ' G2 H2 e1 e2 pv
        obtain ⟨p1, ⟨x0, y0, rfl⟩, p3, p4, p5⟩ := pv
        rw [List.length_map, List.take_length] at p4
        refine s_ret (v := .ref q2) (ev_var (i := 3) rfl) fun H3 e3 => ?_
        have lx := Le.fix e (p1.trans (Le.heap p1.e e3)) hq2' (e3 q2 _ p4)
        exact k (.ref q2) _ H3 lx (at_dic.mpr ⟨q2, rfl, upd_same⟩)
end
end SR
set_option maxRecDepth 100000
set_option maxHeartbeats 4000000
namespace SR
open PySem PySem.Spec PyProof.Rows L2 Evl
section
variable {P : Program} {w : World} {K : PySem.W.Frag} {mg : Str → Option Value} {base : Heap} {ω : Type} {O : OI ω} {Ty : ω → Value}
/-! ### _law_pairs -/
def rPairs : List (D ω) → D ω → Prop := fun ds r => ∃ (m : List (Int × Int)), ds = [.dic m] ∧ (m.map (·.1)).Nodup ∧ m.length ≤ 30000 ∧ r = .lst (m.map pairD)
theorem getI_mem {m : List (Int × Int)} (h : (m.map (·.1)).Nodup) {q : Int × Int} (hq : q ∈ m) : getI m q.1 = some q.2 := by
  induction m with
  | nil => cases hq
  | cons a r ih =>
    rw [List.map_cons, List.nodup_cons] at h
    unfold getI
    rw [List.find?_cons]
    by_cases e : a.1 = q.1
    · rw [decide_eq_true e]
      rcases List.mem_cons.mp hq with rfl | hr
      · rfl
      · exact absurd (e ▸ List.mem_map_of_mem hr) h.1
    · rw [decide_eq_false e]
      rcases List.mem_cons.mp hq with rfl | hr
      · exact absurd rfl e
      · exact ih h.2 hr
abbrev _law_pairs_S : Stmt := topS 108
abbrev _law_pairs_N : List Str := ["_law_held_here", "_law_offset"]
theorem _law_pairs_sc : FnScope _law_pairs_N ["_law_held_here"] (defScope _law_pairs_S) := ⟨rfl, rfl, rfl, by decide +kernel, rfl, by decide +kernel, by decide +kernel⟩
theorem ok_pairs {f : Addr} {fd : FuncData} (F : Fun K "_law_pairs" "_law_pairs" _law_pairs_S f fd) (B : Bi mg) : FnOk P w K mg base CX0 1 f fd ["_law_held_here"] (SpD K O rPairs) := by
  refine F.ok _law_pairs_sc (fun vs H Q E h => ?_) (fun cdv A outer s0 H vs Q E hr h => ?_)
  · obtain ⟨G, ds, d, e, as, ⟨m, rfl, _⟩, k⟩ := h
    exact as.len
  · obtain ⟨G, ds, d, e, as, ⟨m, rfl, hnd, hz, rfl⟩, k⟩ := h
    obtain ⟨v, r, rfl, a, n⟩ := atL_cons.mp as
    obtain rfl := atL_nil.mp n
    obtain ⟨q, rfl, hq⟩ := at_dic.mp a
    have hu := hu_of hr
    refine ⟨_, (pss_one (ps_ret (pe_lock (pe_lc (own := [("_law_offset", 1)]) rfl _law_pairs_sc.nd (pi_keys (pv 0)) (blkOk_by (N := _law_pairs_N) (sc := defScope _law_pairs_S) (by decide +kernel)) (fun _ _ _ _ _ => (pg_name (i := 1) _law_pairs_sc.nd rfl (Or.inl rfl))) (fun _ _ _ _ _ => pts_nil) (fun _ _ _ _ _ => by exact (pe_tup (pa_cons (pv 1) (pa_cons (pe_dget (by exact hu) (pv 0) (pv 1) (fun _ _ => rfl)) pa_nil)))))))), ?_⟩
    refine s_retD ?_ e k
    refine ed_lock hq True.intro ⟨_, rfl⟩ (by show noObjL _ = true; exact noObj_pairs) fun od => ?_
    have h7 := ed_lc (K := K) (O := O) (te := tTup (tCons (tVar 1) (tCons (tDGet (tVar 0) (tVar 1)) tNil))) (tt := tYes) (vs := [1]) (g := gName 1) (fun _ => true) (fun d => match d with | .int o => pairD (o, (getI m o).getD 0) | _ => d) (src_keys (O := O) (td := tVar 0) (σ := [some (.ref q), none]) (ev_var rfl) (upd_same (a := q) (o := .frz od (.dK (kvI m))) (H := G))) (by rw [List.length_map]; omega) ?_
    · have e8 : ((m.map fun q => (D.int q.1 : D ω)).filter fun _ => true).map (fun d => match d with | .int o => pairD (o, (getI m o).getD 0) | _ => d) = m.map pairD := by
        rw [List.filter_eq_self.mpr (fun _ _ => rfl), List.map_map]
        refine List.map_congr_left fun x hx => ?_
        show pairD (x.1, (getI m x.1).getD 0) = pairD x
        rw [getI_mem hnd hx]
        rfl
      rw [e8] at h7
      exact h7
    · intro i d x Gi Hi hd eg eh ad Q' hQ
      obtain ⟨y, hy, rfl⟩ : ∃ y, y ∈ m ∧ d = D.int y.1 := by
        have hi : i < m.length := by
          have := (List.getElem?_eq_some_iff.mp hd).1
          rw [List.length_map] at this
          exact this
        rw [List.getElem?_map, List.getElem?_eq_getElem hi] at hd
        exact ⟨_, List.getElem_mem hi, (Option.some.inj hd).symm⟩
      obtain rfl := at_int.mp ad
      have hg := eg q _ upd_same
      have hc := getI_mem hnd hy
      refine hQ _ Hi (Ex.refl _) rfl et_yes fun _ => ?_
      show EvD K O _ _ _ (pairD (y.1, (getI m y.1).getD 0))
      rw [hc]
      exact ed_tup (eda_cons (ed_of (ev_var rfl) (at_int.mpr rfl)) (eda_cons (ed_of (ev_dgetF (ev_var rfl) hg (ev_var rfl) hc) (at_int.mpr rfl)) eda_nil)) (by show 2 ≤ 100000; decide)
/-! ### _law_same: of the same data, True -/
def rSame (n : Nat) : List (D ω) → D ω → Prop := fun ds r => ∃ d, ds = [d, d] ∧ dep d < n ∧ noObj d = true ∧ r = .bl true
def lenOk : D ω → Prop | .lst l => l.length ≤ 30000 | .tup l => l.length ≤ 30000 | _ => True
mutual
def allOk : D ω → Bool
  | .lst l => decide (l.length ≤ 30000) && allOkL l
  | .tup l => decide (l.length ≤ 30000) && allOkL l
  | _ => true
def allOkL : List (D ω) → Bool
  | [] => true
  | d :: l => allOk d && allOkL l
end
theorem allOkL_mem : ∀ {l : List (D ω)} {d : D ω}, allOkL l = true → d ∈ l → allOk d = true
  | c :: l, d, n, h => by
    simp only [allOkL, Bool.and_eq_true] at n
    rcases List.mem_cons.mp h with rfl | h
    · exact n.1
    · exact allOkL_mem n.2 h
def rSm (n : Nat) : List (D ω) → D ω → Prop := fun ds r => ∃ d, ds = [d, d] ∧ dep d < n ∧ noObj d = true ∧ allOk d = true ∧ r = .bl true
theorem zip_self_get {l : List (D ω)} {i : Nat} {d : D ω} (h : (zipD l l)[i]? = some d) : ∃ c, c ∈ l ∧ d = .tup [c, c] := by
  simp [zipD, List.zip, List.getElem?_zipWith] at h
  cases e : l[i]? with
  | none => rw [e] at h; simp at h
  | some c =>
    rw [e] at h
    simp at h
    exact ⟨c, List.mem_of_getElem? e, h.symm⟩
abbrev _law_same_S : Stmt := topS 106
abbrev _law_same_N : List Str := ["_law_found", "_law_due", "_law_x", "_law_y"]
theorem _law_same_sc : FnScope _law_same_N ["_law_found", "_law_due"] (defScope _law_same_S) := ⟨rfl, rfl, rfl, by decide +kernel, rfl, by decide +kernel, by decide +kernel⟩
theorem ok_same {f : Addr} {fd : FuncData} (F : Fun K "_law_same" "_law_same" _law_same_S f fd) (B : Bi mg) (OK : OT K O Ty) (hm : mg "_law_same" = some (.ref f)) (hb : Binds K fd ["_law_found", "_law_due"] []) : ∀ n, FnOk P w K mg base CX0 n f fd ["_law_found", "_law_due"] (SpD K O (rSm n))
  | 0 => ⟨fun vs H Q E h => (by obtain ⟨G, ds, d, e, as, ⟨d0, _, h1, _⟩, k⟩ := h; exact absurd h1 (Nat.not_lt_zero _)), fun A outer s H args us vs Q E hr he hb hv h => (by obtain ⟨G, ds, d, e, as, ⟨d0, _, h1, _⟩, k⟩ := h; exact absurd h1 (Nat.not_lt_zero _))⟩
  | n + 1 => by
    have h__law_same : DefOk P w K mg base n "_law_same" ["_law_found", "_law_due"] (SpD K O (rSm n)) := defOk F hm (ok_same F B OK hm hb n) hb
    refine F.ok _law_same_sc (fun vs H Q E h => ?_) (fun cdv A outer s0 H vs Q E hr h => ?_)
    · obtain ⟨G, ds, d, e, as, ⟨d0, rfl, _⟩, k⟩ := h
      exact as.len
    · obtain ⟨G, ds, d, e, as, ⟨d0, rfl, hdep, hno, hok, rfl⟩, k⟩ := h
      obtain ⟨v, r, rfl, a, nn⟩ := atL_cons.mp as
      obtain ⟨v2, r, rfl, a2, nn⟩ := atL_cons.mp nn
      obtain rfl := atL_nil.mp nn
      refine ⟨_, (pss_cons (ps_if (pt_val (pe_callB (call_isiTK K) (by rfl) B.isinstance (by decide +kernel) (pa_cons (pv 1) (pa_cons (pe_tup (pa_cons (pe_bltn (v := .ty "list") (by rfl) B.list (by decide +kernel) rfl) (pa_cons (pe_bltn (v := .ty "tuple") (by rfl) B.tuple (by decide +kernel) rfl) pa_nil))) pa_nil)))) (pss_cons (ps_if (PW.pt (pw_or (pt_cmpR op_ne (pe_callB (call_isiK' K) (by rfl) B.isinstance (by decide +kernel) (pa_cons (pv 0) (pa_cons (pe_bltn (v := .ty "list") (by rfl) B.list (by decide +kernel) rfl) pa_nil))) (pe_callB (call_isiK' K) (by rfl) B.isinstance (by decide +kernel) (pa_cons (pv 1) (pa_cons (pe_bltn (v := .ty "list") (by rfl) B.list (by decide +kernel) rfl) pa_nil))) (nomark _)) (pw_or1 (pt_cmpR op_ne (pe_callB (call_isiK' K) (by rfl) B.isinstance (by decide +kernel) (pa_cons (pv 0) (pa_cons (pe_bltn (v := .ty "tuple") (by rfl) B.tuple (by decide +kernel) rfl) pa_nil))) (pe_callB (call_isiK' K) (by rfl) B.isinstance (by decide +kernel) (pa_cons (pv 1) (pa_cons (pe_bltn (v := .ty "tuple") (by rfl) B.tuple (by decide +kernel) rfl) pa_nil))) (nomark _))))) (pss_one (ps_ret pe_bl)) pss_nil)
    (pss_one (ps_ret (pe_and (pe_cmpR op_eq (pe_callB (call_lenK K) (by rfl) B.len (by decide +kernel) (pa_cons (pv 0) pa_nil)) (pe_callB (call_lenK K) (by rfl) B.len (by decide +kernel) (pa_cons (pv 1) pa_nil)) (nomark _)) (pe_one (pe_callB (cr_allK K rfl) (by rfl) B.all (by decide +kernel) (pa_cons (pe_lc (own := [("_law_x", 2), ("_law_y", 3)]) rfl _law_same_sc.nd (RZ.pi_zipA (by rfl) B.zip (pa_cons (pv 0) (pa_cons (pv 1) pa_nil))) (blkOk_by (N := _law_same_N) (sc := defScope _law_same_S) (by decide +kernel)) (fun _ _ _ _ _ => (pg_tupK (k := 2) K rfl (pgs_cons (pg_name (i := 2) _law_same_sc.nd rfl (Or.inl rfl)) (pgs_cons (pg_name (i := 3) _law_same_sc.nd rfl (Or.inl rfl)) pgs_nil)))) (fun _ _ _ _ _ => pts_nil) (fun _ _ _ _ _ => by exact (pe_callD h__law_same (hr.mono (by first | decide | exact Nat.le_refl _)) (pa_cons (pv 2) (pa_cons (pv 3) pa_nil))))) pa_nil))))))) pss_nil)
    (pss_cons (ps_if (pt_val (pe_callB (call_isiK' K) (by rfl) B.isinstance (by decide +kernel) (pa_cons (pv 1) (pa_cons (pe_bltn (v := .ty "int") (by rfl) B.int (by decide +kernel) rfl) pa_nil)))) (pss_one (ps_ret (pe_and (pe_callB (call_isiK' K) (by rfl) B.isinstance (by decide +kernel) (pa_cons (pv 0) (pa_cons (pe_bltn (v := .ty "int") (by rfl) B.int (by decide +kernel) rfl) pa_nil))) (pe_and (pe_cmpR op_eq (pe_callB (call_isiK' K) (by rfl) B.isinstance (by decide +kernel) (pa_cons (pv 0) (pa_cons (pe_bltn (v := .ty "bool") (by rfl) B.bool (by decide +kernel) rfl) pa_nil))) (pe_callB (call_isiK' K) (by rfl) B.isinstance (by decide +kernel) (pa_cons (pv 1) (pa_cons (pe_bltn (v := .ty "bool") (by rfl) B.bool (by decide +kernel) rfl) pa_nil))) (nomark _)) (pe_one (pe_cmpR op_eq (pv 0) (pv 1) (nomark _))))))) pss_nil)
    (pss_one (ps_ret (pe_and (pe_cmpR op_isBl (pe_callB (call_isiTK K) (by rfl) B.isinstance (by decide +kernel) (pa_cons (pv 0) (pa_cons (pe_tup (pa_cons (pe_bltn (v := .ty "int") (by rfl) B.int (by decide +kernel) rfl) (pa_cons (pe_bltn (v := .ty "list") (by rfl) B.list (by decide +kernel) rfl) (pa_cons (pe_bltn (v := .ty "tuple") (by rfl) B.tuple (by decide +kernel) rfl) pa_nil)))) pa_nil))) pe_bl (nomark _)) (pe_one (pe_cmpR op_eq (pv 0) (pv 1) (nomark _)))))))), ?_⟩
      have h0 : EvD K O (tVar 0) [some v, some v2, none, none] G d0 := ed_var rfl a
      have h1 : EvD K O (tVar 1) [some v, some v2, none, none] G d0 := ed_var rfl a2
      refine q_whenG (b := dSeq d0) (et_test (isi_seq OK h1)) e (fun hs H2 l2 => ?_) (fun hs H2 l2 => ?_)
      · -- lists, tuples
        refine q_skip (et_is (et_or (et_test (ev_op (isi_list OK h0) (isi_list OK h1) (rv_ne rfl))) fun _ => et_test (ev_op (isi_tuple OK h0) (isi_tuple OK h1) (rv_ne rfl))) (by simp)) l2.e fun H3 l3 => ?_
        refine s_retD (ed_of (v := .bl true) ?_ (at_bl.mpr rfl)) l3.e (k.mono (l2.trans l3))
        refine ev_is (ev_andV (a := true) (b := true) (ev_is (ev_op (len_d h0 hs) (len_d h1 hs) (rv_eq rfl)) (by simp)) fun _ => ?_) rfl
        obtain ⟨l, src, hln, hmem⟩ : ∃ l : List (D ω), Src K O (RZ.iZipA K (tCons (tVar 0) (tCons (tVar 1) tNil))) [some v, some v2, none, none] G (zipD l l) ∧ l.length ≤ 30000 ∧ ∀ c, c ∈ l → dep c < n ∧ noObj c = true ∧ allOk c = true := by
          cases d0 with
          | lst l =>
            simp only [allOk, Bool.and_eq_true] at hok
            refine ⟨l, src_zipL (eda_cons h0 (eda_cons h1 eda_nil)), of_decide_eq_true hok.1, fun c hc => ⟨?_, noObjL_mem (by simpa only [noObj] using hno) hc, allOkL_mem hok.2 hc⟩⟩
            have h3 := depL_le hc
            have h4 : depL l + 1 < n + 1 := hdep
            omega
          | tup l =>
            simp only [allOk, Bool.and_eq_true] at hok
            refine ⟨l, src_zipT (eda_cons h0 (eda_cons h1 eda_nil)), of_decide_eq_true hok.1, fun c hc => ⟨?_, noObjL_mem (by simpa only [noObj] using hno) hc, allOkL_mem hok.2 hc⟩⟩
            have h3 := depL_le hc
            have h4 : depL l + 1 < n + 1 := hdep
            omega
          | _ => cases hs
        have hz : (zipD l l).length ≤ 40000 := by simp [zipD]; omega
        have h7 := ed_lc (K := K) (O := O) (te := tCall (SpD K O (rSm n)) [] E0 (tCons (tVar 2) (tCons (tVar 3) tNil))) (tt := tYes) (vs := [2, 3]) (g := gTup K 2 (gCons (gName 2) (gCons (gName 3) gNil))) (fun _ => true) (fun _ => D.bl true) src hz ?_
        · have e8 : ((zipD l l).filter fun _ => true).map (fun _ => (D.bl true : D ω)) = ((zipD l l).map fun _ => true).map D.bl := by
            rw [List.filter_eq_self.mpr (fun _ _ => rfl), List.map_map]
            rfl
          rw [e8] at h7
          refine ev_is (ev_allD h7) ?_
          congr 1
          rw [List.all_map]
          simp
        · intro i d x Gi Hi hd eg eh ad Q' hQ
          obtain ⟨c, hc, rfl⟩ := zip_self_get hd
          obtain ⟨hc1, hc2, hc3⟩ := hmem c hc
          refine tg_pair ad eh fun x1 x2 a1 a2 => ?_
          exact hQ _ Hi (Ex.refl _) rfl et_yes fun _ => ed_call (eda_cons (ed_var rfl a1) (eda_cons (ed_var rfl a2) eda_nil)) ⟨c, rfl, hc1, hc2, hc3, rfl⟩
      · refine q_whenG (b := dIntB d0) (et_test (isi_int OK h1)) l2.e (fun hi H3 l3 => ?_) (fun hi H3 l3 => ?_)
        · refine s_retD (ed_of (v := .bl true) ?_ (at_bl.mpr rfl)) l3.e (k.mono (l2.trans l3))
          refine ev_is (ev_andV (a := true) (b := true) (ev_is (isi_int OK h0) (by rw [hi])) fun _ => ?_) rfl
          refine ev_is (ev_andV (a := true) (b := true) (ev_is (ev_op (isi_bool OK h0) (isi_bool OK h1) (rv_eq rfl)) (by simp)) fun _ => ?_) rfl
          cases d0 with
          | int i =>
            obtain rfl := at_int.mp a
            obtain rfl := at_int.mp a2
            exact ev_is (ev_op (ev_var (i := 0) rfl) (ev_var (i := 1) rfl) (rv_eq rfl)) (by simp)
          | bl b =>
            obtain rfl := at_bl.mp a
            obtain rfl := at_bl.mp a2
            exact ev_is (ev_op (ev_var (i := 0) rfl) (ev_var (i := 1) rfl) (rv_eq rfl)) (by simp)
          | _ => cases hi
        · refine s_retD (K := K) (O := O) (ed_of (v := .bl true) ?_ (at_bl.mpr rfl)) l3.e (k.mono (l2.trans l3))
          refine ev_is (ev_andV (a := true) (b := true) (ev_is (ev_op (isi_ils OK h0) ev_c (fun H1 _ Q q => ⟨_, _, rfl, rfl, q H1 (Ex.refl H1)⟩ : RV rIsB (.bl (dIntB d0 || dSeq d0)) (.bl false) G (.bl (decide ((dIntB d0 || dSeq d0) = false))))) (by rw [hs, hi]; rfl)) fun _ => ?_) rfl
          cases d0 with
          | non =>
            obtain rfl := at_non.mp a
            obtain rfl := at_non.mp a2
            exact ev_is (ev_op (ev_var (i := 0) rfl) (ev_var (i := 1) rfl) (rv_eq rfl)) (by simp)
          | str x =>
            obtain rfl := at_str.mp a
            obtain rfl := at_str.mp a2
            exact ev_is (ev_op (ev_var (i := 0) rfl) (ev_var (i := 1) rfl) (rv_eq rfl)) (by simp)
          | dic m => simp only [noObj] at hno; cases hno
          | obj u => simp only [noObj] at hno; cases hno
          | int i => cases hi
          | bl b => cases hi
          | lst l => cases hs
          | tup l => cases hs
end
end SR
set_option maxRecDepth 100000
set_option maxHeartbeats 4000000
namespace SR
open PySem PySem.Spec PyProof.Rows L2 Evl
theorem depL_pairs {ω : Type} : ∀ {m : List (Int × Int)}, depL (ω := ω) (m.map pairD) ≤ 1
  | [] => Nat.zero_le _
  | q :: r => by
    have ih := depL_pairs (ω := ω) (m := r)
    show max (dep (pairD q : D ω)) (depL (r.map pairD)) ≤ 1
    have h1 : dep (pairD q : D ω) = 1 := rfl
    rw [h1]
    omega
theorem allOk_pairs {ω : Type} : ∀ {m : List (Int × Int)}, allOkL (ω := ω) (m.map pairD) = true
  | [] => rfl
  | q :: r => by
    show (allOk (pairD q : D ω) && allOkL (r.map pairD)) = true
    rw [allOk_pairs]
    rfl
def dueD (m : List (Int × Int)) : List (D FilS) := [optD (lowO m), optD (highO m), optD ((lowO m).bind fun a => (highO m).map fun b => b - a)]
theorem optD_ok (o : Option Int) : noObj (optD o) = true ∧ allOk (optD o) = true ∧ dep (optD o) = 0 := by cases o <;> exact ⟨rfl, rfl, rfl⟩
end SR
set_option maxRecDepth 100000
set_option maxHeartbeats 4000000
namespace SR
open PySem PySem.Spec PyProof.Rows L2 Evl
section
variable {P : Program} {w : World} {K : PySem.W.Frag} {mg : Str → Option Value} {base : Heap} {ω : Type} {O : OI ω} {Ty : ω → Value}
/-- draw(e), e an int by the heap as it stands -/
theorem x_drawH {G H : Hp} {s q : Addr} {n : Nat} {te : TE} {σ : L2.St} {many : Int} {E : XK} {Q : VK} (a : At2 s q G H n) (hn : n + 1 ≤ 1000000) (hv : σ[0]? = some (some (.ref s))) (ha : Ev te σ H (.int many)) (h0 : 0 < many) (h1 : many < 1073741824)
    (k : ∀ x G2 H2, 0 ≤ x → x < many → LeX s q G H G2 H2 → At2 s q G2 H2 (n + 1) → Q (.int x) H2) : cDraw K O E (tCons te tNil) σ H Q :=
  ⟨.ref s, hv, ha H (Ex.refl H) _ fun H2 e2 => by
    have l := Le.heap a.e e2
    have a2 := a.le l
    refine ⟨G, s, q, n, [.int many], [.int many], rfl, a2.e, a2.gs, a2.gq, a2.spr, hn, AtL.one (at_int.mpr rfl), ⟨many, rfl, h0, h1⟩, fun d v G3 H3 ⟨m', x, hm, hd, hx0, hx1⟩ l3 sp3 av => ?_⟩
    subst hd
    obtain rfl := at_int.mp av
    have hm' : many = m' := D.int.inj (List.cons.inj hm).1
    exact k x G3 H3 hx0 (by omega) (l.x.trans l3) (a2.go l3 sp3)⟩
def pTold : List (D ω) → Prop := fun ds => ∃ (p : Int) (rows : List (Int × Int)), ds = [.int p, .lst (rows.map pairD)] ∧ primes.contains p = true ∧ rows.length ≤ 16
def rTold : List (D ω) → D ω → Prop := fun ds d => ∃ (p : Int) (rows rows' : List (Int × Int)), ds = [.int p, .lst (rows.map pairD)] ∧ d = .lst (rows'.map pairD) ∧ rows'.length ≤ 100 ∧ coll p rows' = coll p rows
theorem prime_lt {p : Int} (h : primes.contains p = true) : 1 < p ∧ p < 8 := by
  have h1 : p ∈ primes := List.contains_iff_mem.mp h
  unfold primes at h1
  simp at h1
  omega
theorem split_tot {a : List (Int × Int)} {i : Nat} {x : Int × Int} {o : Int} : totl (a.take i ++ [x] ++ a.drop i) o = totl a o + totl [x] o := by
  have h : totl a o = totl (a.take i) o + totl (a.drop i) o := by rw [← totl_append, List.take_append_drop]
  rw [totl_append, totl_append, h]
  omega
end
end SR
set_option maxRecDepth 100000
set_option maxHeartbeats 4000000
namespace SR
open PySem PySem.Spec PyProof.Rows L2 Evl
section
variable (P : Program) (w : World) (K : PySem.W.Frag) (mg : Str → Option Value) (base : Heap)
structure CMethOk (C : Addr) (k : Nat) (m : Str) (ps : List Str) (sp : Sp) : Prop where
  ex : ∃ mc p g fd, ClX.CRead K C mc ∧ ClX.CMet K C mc m p g ∧ Binds K fd ps [] ∧ FnOk P w K mg base CX0 k g fd ps sp
end
section
variable {X : Cx} {k : Nat} {C : Addr} {ps : List Str} {sp : Sp} {o e : Expr} {es : List Expr} {m : Str} {pos apos : Pos} {ta : TE} {t : TA} {pl : Sem Bool}
theorem pe_cmethD (h : CMethOk X.prog X.w X.K X.mg X.base C k m ps sp) (hr : Room k X.A) (he : PE X o ta) (ha : PA X (e :: es) t)
    (hst : starEach (e :: es) X.env = (false, eval e X.env) :: starEach es X.env := by rfl) (hpl : (backTo pos (starEach es X.env)).any (·.1) = false := by rfl)
    (ht : eval (.Call (.Attribute o m apos) (e :: es) [] pos) X.env = (do
      let ov ← eval o X.env
      standAt apos.atName
      let (f, first) ← holding [ov] (getMethod ov m pl)
      callWith pos f first (backTo pos (starEach (e :: es) X.env)) (backToKw pos (keywordEach [] X.env))) := by rfl) :
    PE X (.Call (.Attribute o m apos) (e :: es) [] pos) (ClX.tCMeth C (fun vs H Q E => sp (vs ++ []) H Q E) E0 ta t) := by
  obtain ⟨mc, p, g, fd, r, c, hb, F⟩ := h.ex
  exact ClX.pe_cmeth he r c (F.raw hb .nil) hr pass0 ha hst hpl ht
end
section
variable {P : Program} {w : World} {K : PySem.W.Frag} {mg : Str → Option Value} {base : Heap} {C : Addr} {G H : Hp} {te : TE} {σ : L2.St} {t : TA} {E : XK}
/-- Filter(p, rows) -/
theorem ed_make {p : Int} {d : D FilS} {rows : List (Int × Int)} (h : EvDA K (FilO K C) t σ G [.int p, d]) (hp : primes.contains p = true) (hr : RowsD d rows) (hz : rows.length ≤ 30000) : EvD K (FilO K C) (tMake C (spInit K C) [] E t) σ G (.obj ⟨p, coll p rows⟩) := fun H1 e Q k =>
  h H1 e _ fun vs G2 H2 l as => by
    obtain ⟨v1, r, rfl, a1, n⟩ := atL_cons.mp as
    obtain ⟨v2, r, rfl, a2, n⟩ := atL_cons.mp n
    obtain rfl := atL_nil.mp n
    obtain rfl := at_int.mp a1
    intro x dx hx hdx hne
    exact ⟨G2, H2, x, dx, p, v2, d, rows, rfl, l.e, hx, hdx, hne, rfl, a2, hr, hz, hp, fun G3 H3 l3 fa => ⟨rfl, k (.ref x) G3 H3 (l.trans l3) (at_obj.mpr ⟨x, rfl, fa⟩)⟩⟩
/-- Filter(p): the default -/
theorem ed_make1 {p : Int} {a0 : Addr} (h : EvDA K (FilO K C) t σ G [.int p]) (hp : primes.contains p = true) (h0 : ∀ H, SqT K H a0 []) : EvD K (FilO K C) (tMake C (spInit K C) [.ref a0] E t) σ G (.obj ⟨p, coll p []⟩) := fun H1 e Q k =>
  h H1 e _ fun vs G2 H2 l as => by
    obtain ⟨v1, r, rfl, a1, n⟩ := atL_cons.mp as
    obtain rfl := atL_nil.mp n
    obtain rfl := at_int.mp a1
    intro x dx hx hdx hne
    exact ⟨G2, H2, x, dx, p, .ref a0, .tup [], [], rfl, l.e, hx, hdx, hne, rfl, at_tup.mpr ⟨a0, [], rfl, h0 _, atL_nil.mpr rfl⟩, ⟨[], Or.inr rfl, .nil⟩, Nat.zero_le _, hp, fun G3 H3 l3 fa => ⟨rfl, k (.ref x) G3 H3 (l.trans l3) (at_obj.mpr ⟨x, rfl, fa⟩)⟩⟩
theorem rowsD_pairs {rows : List (Int × Int)} : RowsD (D.lst (ω := FilS) (rows.map pairD)) rows := ⟨_, Or.inl rfl, RowsL.pairs⟩
theorem rowsD_tup {rows : List (Int × Int)} : RowsD (D.tup (ω := FilS) (rows.map pairD)) rows := ⟨_, Or.inr rfl, RowsL.pairs⟩
/-! ### Filter.shift -/
def spShift (K : PySem.W.Frag) (C : Addr) : Sp := fun vs H Q _ => ∃ G p o, vs = [.ref C, .int p, .int o] ∧ Ex G H ∧ primes.contains p = true ∧ RetG K (FilO K C) (.obj ⟨p, coll p [(o, 1)]⟩) G H Q
abbrev Filter_shift_S : Stmt := inClass (topS 60) 1
abbrev Filter_shift_N : List Str := ["cls", "prime", "offset"]
theorem Filter_shift_sc : FnScope Filter_shift_N ["cls", "prime", "offset"] (defScope Filter_shift_S) := ⟨rfl, rfl, rfl, by decide +kernel, rfl, by decide +kernel, by decide +kernel⟩
theorem ok_shift {f : Addr} {fd : FuncData} (F : Fun K "shift" "Filter.shift" Filter_shift_S f fd) (h_Filter : MakeOk P w K mg base C 4 "Filter" ["self", "prime", "terms"] [] (spInit K C)) : FnOk P w K mg base CX0 6 f fd ["cls", "prime", "offset"] (spShift K C) := by
  refine F.ok Filter_shift_sc (fun vs H Q E h => ?_) (fun cdv A outer s H vs Q E hr h => ?_)
  · obtain ⟨G, p, o, rfl, _⟩ := h
    rfl
  · obtain ⟨G, p, o, rfl, e, hp, k⟩ := h
    refine ⟨_, (pss_one (ps_ret (pe_makeDL (i := 0) h_Filter (hr.mono (by decide)) (pa_cons (pv 1) (pa_cons (pe_lst (pa_cons (pe_tup (pa_cons (pv 2) (pa_cons pe_int pa_nil))) pa_nil)) pa_nil))))), ?_⟩
    refine ⟨rfl, ed_make (p := p) (d := .lst ([(o, 1)].map pairD)) (rows := [(o, 1)]) (eda_cons (ed_of (ev_var (i := 1) rfl) (at_int.mpr rfl)) (eda_cons (ed_lst (eda_cons (ed_tup (eda_cons (ed_of (ev_var (i := 2) rfl) (at_int.mpr rfl)) (eda_cons (ed_of ev_c (at_int.mpr rfl)) eda_nil)) (by show 2 ≤ 100000; decide)) eda_nil) (by show 1 ≤ 100000; decide)) eda_nil)) hp rowsD_pairs (by show 1 ≤ 30000; decide) H e _ k⟩
theorem ed_shift {p o : Int} (h : EvDA K (FilO K C) t σ G [.int p, .int o]) (hp : primes.contains p = true) : EvD K (FilO K C) (ClX.tCMeth C (fun vs H Q E => spShift K C (vs ++ []) H Q E) E0 (tC (.ref C)) t) σ G (.obj ⟨p, coll p [(o, 1)]⟩) := fun H1 e Q k =>
  ⟨rfl, h H1 e _ fun vs G2 H2 l as => by
    obtain ⟨v1, r, rfl, a1, n⟩ := atL_cons.mp as
    obtain ⟨v2, r, rfl, a2, n⟩ := atL_cons.mp n
    obtain rfl := atL_nil.mp n
    obtain rfl := at_int.mp a1
    obtain rfl := at_int.mp a2
    exact ⟨G2, p, o, rfl, l.e, hp, k.mono l⟩⟩
/-! ### terms: a new list -/
def spTermsN (K : PySem.W.Frag) (C : Addr) : Sp := fun vs H Q _ => ∃ G w v, vs = [v] ∧ Ex G H ∧ At K (FilO K C) G (.obj w) v ∧ ∀ l G2 H2, H l = none → Le G H G2 H2 → At K (FilO K C) G2 (.lst (w.ps.map pairD)) (.ref l) → Q (.ref l) H2
theorem ok_termsN {f : Addr} {fd : FuncData} (F : Fun K "terms" "Filter.terms" Filter_terms_S f fd) (B : Bi mg) (c : FilC K C) : FnOk P w K mg base CX0 1 f fd ["self"] (spTermsN K C) := by
  refine F.ok Filter_terms_sc (fun vs H Q E h => ?_) (fun cdv A outer s H vs Q E hr h => ?_)
  · obtain ⟨G, w0, v, rfl, _⟩ := h
    rfl
  · obtain ⟨G, w0, v, rfl, e, a, k⟩ := h
    refine ⟨_, (pss_one (ps_ret (pe_callTy call_list_of (by rfl) B.list (by decide +kernel) (pa_cons (pe_fldK K (pv 0)) pa_nil)))), ?_⟩
    refine ed_pairs c (ed_var (i := 0) (σ := [some v]) rfl a) H e _ fun vt G2 H2 l at' => ?_
    obtain ⟨p, vs, rfl, hs, as⟩ := at_tup.mp at'
    exact ⟨p, vs, rfl, Or.inr (ex_t l.e hs), fun q hq => k q (upd G2 q (.lst vs)) _ (l.back hq) (l.trans (Le.new l.e hq)) (at_lst.mpr ⟨q, vs, rfl, upd_same, as.mono (Ex.new (none_of_ex l.e hq))⟩)⟩
/-- the weaker promise -/
theorem terms_weak {vs : List V} {H : Hp} {Q : VK} {E : XK} (h : SpD K (FilO K C) rTerms vs H Q E) : spTermsN K C vs H Q E := by
  obtain ⟨G, ds, d, e, as, ⟨w, rfl, rfl⟩, k⟩ := h
  obtain ⟨v, r, rfl, a, n⟩ := atL_cons.mp as
  obtain rfl := atL_nil.mp n
  exact ⟨G, w, v, rfl, e, a, fun l G2 H2 _ lw al => k _ G2 H2 lw al⟩
/-- tuple(a list) -/
theorem ed_tupleF {ω : Type} {O : OI ω} {ta : TE} {l : List (D ω)} (h : EvD K O ta σ G (.lst l)) : EvD K O (tCB (fun xs H Q => ∃ p ys, xs = [V.ref p] ∧ SqL K H p ys ∧ ∀ l o, H l = none → o.dict = none → Q (.ref l) (upd H l (.frz o (.tup ys)))) (tCons ta tNil)) σ G (.tup l) := fun H1 e Q k =>
  h H1 e _ fun v G2 H2 le a => by
    obtain ⟨p, vs, rfl, hs, as⟩ := at_lst.mp a
    exact ⟨p, vs, rfl, sq_of (le.e _ _ hs), fun q o hq _ => k _ (upd G2 q (.frz o (.tup vs))) _ (le.trans (Le.new le.e hq)) (at_tup.mpr ⟨q, vs, rfl, Or.inl (Or.inr ⟨o, upd_same⟩), as.mono (Ex.new (none_of_ex le.e hq))⟩)⟩
theorem ed_newD {ω : Type} {O : OI ω} : EvD K O tDNewK σ G (.dic []) := fun H1 e Q k p hp => k _ (upd G p (.dK [])) _ (Le.new e hp) (at_dic.mpr ⟨p, rfl, upd_same⟩)
end
end SR
set_option maxRecDepth 100000
set_option maxHeartbeats 4000000
namespace SR
open PySem PySem.Spec PyProof.Rows L2 Evl
section
variable {ω : Type} {K : PySem.W.Frag} {O : OI ω} {G H : Hp} {te : TE} {σ : L2.St}
/-- a comprehension: its list is new -/
theorem x_lc {wi : TI} {g : TG} {tt : TT} {vs : List Nat} {ds : List (D ω)} (f : D ω → Bool) (m : D ω → D ω) (hs : Src K O wi σ G ds) (hz : ds.length ≤ 40000)
    (body : ∀ (i : Nat) (d : D ω) (x : V) (Gi Hi : Hp), ds[i]? = some d → Ex G Gi → Ex Gi Hi → At K O Gi d x → ∀ Q : L2.St → Hp → Prop,
      (∀ σ2 H2, Ex Hi H2 → wipe σ2 vs = wipe σ vs → EvT tt σ2 Gi (f d) → (f d = true → EvD K O te σ2 Gi (m d)) → Q σ2 H2) → g x (wipe σ vs) Hi Q) :
    ∀ (H1 : Hp), Ex G H1 → ∀ Q : VK, (∀ (Dl : Addr) (G2 H2 : Hp), H1 Dl = none → Le G H1 G2 H2 → At K O G2 (.lst ((ds.filter f).map m)) (.ref Dl) → Q (.ref Dl) H2) → tLc wi g tt te vs σ H1 Q := fun H1 e Q k => by
  refine hs H1 e _ fun J Gd Y G0 H0 l0 w hG yl => ?_
  intro Dl hD
  refine lc_it w (fun i H => ∃ Gi us, Le G0 H0 Gi H ∧ H Dl = some (.lst us) ∧ Gi Dl = none ∧ AtL K O Gi (((ds.take i).filter f).map m) us)
    ⟨G0, [], Le.newM l0.e hD, upd_same, none_of_ex l0.e hD, by simp; exact atL_nil.mpr rfl⟩ (fun i H _ p => ?_) (fun i x Hi Hi' hi p y => ?_) fun H p => ?_
  · obtain ⟨Gi, us, l, _⟩ := p
    exact hG H (l.g.trans l.e)
  · obtain ⟨Gi, us, l, hu, gn, as⟩ := p
    obtain ⟨d, Gi', hd, l', ad⟩ := yl i Gi Hi x Hi' l.g l.e hi y
    have tk := take_snoc hd
    have gn' : Gi' Dl = none := l'.gnone gn (by rw [hu]; exact fun z => nomatch z)
    have hu' : Hi' Dl = some (.lst us) := l'.h Dl _ hu
    have lt : Le G0 H0 Gi' Hi' := l.trans l'
    refine body i d x Gi' Hi' hd (l0.g.trans lt.g) l'.e ad _ fun σ2 H2 e2 hw ht he => ⟨hw, ?_⟩
    refine ht H2 (l'.e.trans e2) _ fun H3 e3 => ?_
    have e23 := e2.trans e3
    have lt3 : Le G0 H0 Gi' H3 := lt.trans (Le.heap l'.e e23)
    cases hf : f d with
    | false =>
      rw [if_neg Bool.false_ne_true]
      refine ⟨Gi', us, lt3, e23 Dl _ hu', gn', ?_⟩
      rw [tk, List.filter_append, List.filter_cons, if_neg (by rw [hf]; decide), List.filter_nil, List.append_nil]
      exact as.mono l'.g
    | true =>
      rw [if_pos rfl]
      refine he hf H3 (l'.e.trans e23) _ fun u G4 H4 l4 a4 => ?_
      have hu4 : H4 Dl = some (.lst us) := l4.h Dl _ (e23 Dl _ hu')
      have gn4 : G4 Dl = none := l4.gnone gn' (by rw [e23 Dl _ hu']; exact fun z => nomatch z)
      have ul : us.length ≤ i := by
        have := as.len
        have h2 := List.length_filter_le f (ds.take i)
        simp at this h2
        omega
      refine ⟨us, hu4, sz_lt (by omega), G4, us ++ [u], (lt3.trans l4).mut hD gn4, upd_same, gn4, ?_⟩
      rw [tk, List.filter_append, List.filter_cons, if_pos hf, List.filter_nil, List.map_append]
      exact (as.mono (l'.g.trans l4.g)).app (AtL.one a4)
  · obtain ⟨Gi, us, l, hu, gn, as⟩ := p
    rw [List.take_length] at as
    exact k Dl (upd Gi Dl (.lst us)) H (fresh_back l0.h hD) (l0.trans (Le.fix l0.e l hD hu)) (at_lst.mpr ⟨Dl, us, rfl, upd_same, as.mono (Ex.new gn)⟩)
end
/-! ### a world without its lists -/
def nol (G : Hp) : Hp := fun a => match G a with
  | some (.lst _) => none
  | x => x
section
variable {K : PySem.W.Frag} {C : Addr} {G G1 H : Hp} {a : Addr} {vs : List V} {v : V} {w : FilS} {o : HO}
theorem nol_ex : Ex (nol G) G := fun a o h => by
  unfold nol at h
  cases q : G a with
  | none => rw [q] at h; cases h
  | some u => rw [q] at h; cases u <;> first | (cases h; done) | exact h
theorem nol_lst (h : G a = some (.lst vs)) : nol G a = none := by unfold nol; rw [h]
theorem nol_none (h : G a = none) : nol G a = none := by unfold nol; rw [h]
theorem nol_keep (h : G a = some o) (n : ∀ vs, o ≠ .lst vs) : nol G a = some o := by
  unfold nol
  rw [h]
  cases o <;> first | rfl | exact absurd rfl (n _)
theorem nol_t (h : SqT K G a vs) : SqT K (nol G) a vs := by
  rcases h with (h | ⟨o, h⟩) | h
  · exact Or.inl (Or.inl (nol_keep h fun _ z => nomatch z))
  · exact Or.inl (Or.inr ⟨o, nol_keep h fun _ z => nomatch z⟩)
  · exact Or.inr h
theorem fil_nol (h : At K (FilO K C) G (.obj w) v) : At K (FilO K C) (nol G) (.obj w) v := by
  obtain ⟨x, rfl, dx, tp, o, ts, kd, g1, g2, g3, g4, g5⟩ := at_obj.mp h
  exact at_obj.mpr ⟨x, rfl, dx, tp, o, ts, kd, nol_keep g1 (fun _ z => nomatch z), g2, nol_keep g3 (fun _ z => nomatch z), Paired.mapP g4 (fun _ _ q => nol_t q), nol_keep g5 (fun _ z => nomatch z)⟩
theorem dic_nol {ω : Type} {O : OI ω} {m : List (Int × Int)} (h : At K O G (.dic m) v) : At K O (nol G) (.dic m) v := by
  obtain ⟨x, rfl, g⟩ := at_dic.mp h
  exact at_dic.mpr ⟨x, rfl, nol_keep g fun _ z => nomatch z⟩
/-- what stays known: all of G1; of G what is no list -/
def keepG (G1 G : Hp) : Hp := hun G1 (nol G)
theorem keepG_ex (h1 : Ex G1 G) (h : Ex G H) : Ex (keepG G1 G) H := hun_ex (h1.trans h) (nol_ex.trans h)
theorem keepG_l : Ex G1 (keepG G1 G) := hun_l
theorem keepG_r (h1 : Ex G1 G) : Ex (nol G) (keepG G1 G) := hun_r h1 nol_ex
theorem keepG_lst (h1 : G1 a = none) (h : G a = some (.lst vs)) : keepG G1 G a = none := by
  unfold keepG hun
  rw [h1]
  exact nol_lst h
theorem keepG_none (h1 : G1 a = none) (h : G a = none) : keepG G1 G a = none := by
  unfold keepG hun
  rw [h1]
  exact nol_none h
theorem ex_mut (e : Ex G H) (h : G a = none) : Ex G (upd H a o) := fun x u q => by
  rw [upd_ne (ne_of_none q h)]
  exact e x u q
/-- .. and the source stays -/
theorem At2.mut {s q : Addr} {n : Nat} (A : At2 s q G H n) (h : G a = none) (hs : a ≠ s) (hq : a ≠ q) : At2 s q G (upd H a o) n := by
  refine ⟨ex_mut A.e h, A.gs, A.gq, ?_⟩
  obtain ⟨cells, r, m, sd, h1, h2, h3⟩ := A.spr.ex
  exact ⟨cells, r, m, sd, by rw [upd_ne (Ne.symm hs)]; exact h1, by rw [upd_ne (Ne.symm hq)]; exact h2, h3⟩
theorem At2.ex {s q : Addr} {n k : Nat} {H2 : Hp} (A : At2 s q G H n) (e : Ex H H2) (hn : n ≤ k) : At2 s q G H2 k := ⟨A.e.trans e, A.gs, A.gq, A.spr.keep (fun x o h => e x o h) hn⟩
/-- a new object, not known -/
theorem At2.fresh {s q : Addr} {n : Nat} (A : At2 s q G H n) (h : H a = none) : At2 s q G (upd H a o) n := A.ex (Ex.new h) (Nat.le_refl _)
theorem At2.nes {s q : Addr} {n : Nat} (A : At2 s q G H n) (h : H a = none) : a ≠ s ∧ a ≠ q := ⟨fun z => A.spr.sne (z ▸ h), fun z => A.spr.qne (z ▸ h)⟩
theorem At2.keepG {s q : Addr} {n : Nat} (A : At2 s q G H n) (h1 : Ex G1 G) : At2 s q (keepG G1 G) H n :=
  ⟨keepG_ex h1 A.e, keepG_none (none_of_ex h1 A.gs) A.gs, keepG_none (none_of_ex h1 A.gq) A.gq, A.spr⟩
end
/-! ### rows as new lists -/
def lstD {ω : Type} (q : Int × Int) : D ω := .lst [.int q.1, .int q.2]
/-- a list of two ints, not in G0 -/
def LkO (G0 : Hp) : OI (Int × Int) where
  at_ := fun H a q => H a = some (.lst [.int q.1, .int q.2]) ∧ G0 a = none
  mono := fun e h => ⟨e _ _ h.1, h.2⟩
theorem lk_at {K : PySem.W.Frag} {ω : Type} {O : OI ω} {G0 G : Hp} : ∀ {l : List (Int × Int)} {vs : List V}, AtL K (LkO G0) G (l.map D.obj) vs → AtL K O G (l.map lstD) vs
  | [], vs, h => atL_nil.mpr (atL_nil.mp h)
  | q :: r, vs, h => by
    obtain ⟨v, u, rfl, a, n⟩ := atL_cons.mp h
    obtain ⟨x, rfl, hx, _⟩ := at_obj.mp a
    exact atL_cons.mpr ⟨_, _, rfl, at_lst.mpr ⟨x, _, rfl, hx, AtL.ints (ns := [q.1, q.2])⟩, lk_at n⟩
theorem at_pairs_to {K : PySem.W.Frag} {ω ω' : Type} {O : OI ω} {O' : OI ω'} {G : Hp} {l : List (Int × Int)} {v : V} (h : At K O G (.lst (l.map pairD)) v) : At K O' G (.lst (l.map pairD)) v := by
  obtain ⟨p, vs, rfl, hs, as⟩ := at_lst.mp h
  obtain ⟨ts, rfl, ht⟩ := pairs_atL as
  exact at_lst.mpr ⟨p, _, rfl, hs, atL_pairs ht⟩
theorem rows_lsts {ω : Type} : ∀ {r : List (Int × Int)}, RowsL (ω := ω) (r.map lstD) r
  | [] => .nil
  | q :: r => .cons (Or.inl rfl) rows_lsts
theorem pairs_inj {ω : Type} : ∀ {a b : List (Int × Int)}, a.map (pairD (ω := ω)) = b.map pairD → a = b
  | [], [], _ => rfl
  | [], _ :: _, h => nomatch h
  | _ :: _, [], h => nomatch h
  | (x, y) :: a, (u, v) :: b, h => by
    obtain ⟨h1, h2⟩ := List.cons.inj h
    have h3 := D.tup.inj h1
    obtain ⟨h4, h5⟩ := List.cons.inj h3
    obtain rfl := D.int.inj h4
    obtain rfl := D.int.inj (List.cons.inj h5).1
    rw [pairs_inj h2]
theorem noObj_lsts {ω : Type} : ∀ {r : List (Int × Int)}, noObjL (ω := ω) (r.map lstD) = true
  | [] => rfl
  | q :: r => by
    show (noObj (lstD q : D ω) && noObjL (r.map lstD)) = true
    rw [noObj_lsts]
    rfl
theorem allOk_lsts {ω : Type} : ∀ {r : List (Int × Int)}, allOkL (ω := ω) (r.map lstD) = true
  | [] => rfl
  | q :: r => by
    show (allOk (lstD q : D ω) && allOkL (r.map lstD)) = true
    rw [allOk_lsts]
    rfl
theorem depL_lsts {ω : Type} : ∀ {m : List (Int × Int)}, depL (ω := ω) (m.map lstD) ≤ 1
  | [] => Nat.zero_le _
  | q :: r => by
    have ih := depL_lsts (ω := ω) (m := r)
    show max (dep (lstD q : D ω)) (depL (r.map lstD)) ≤ 1
    have h1 : dep (lstD q : D ω) = 1 := rfl
    rw [h1]
    omega
theorem lay_lsts {ω : Type} : ∀ {ps : List (Int × Int)}, PyData.canLayAll0 (toPL (ω := ω) (ps.map lstD)) = true ∧ PyData.depthAll (toPL (ω := ω) (ps.map lstD)) ≤ 1
  | [] => ⟨rfl, Nat.zero_le _⟩
  | q :: r => by
    have ih := lay_lsts (ω := ω) (ps := r)
    refine ⟨?_, ?_⟩
    · show (PyData.canLay0 (toP (lstD q : D ω)) && PyData.canLayAll0 (toPL (r.map lstD))) = true
      rw [ih.1]
      rfl
    · show max (PyData.depth (toP (lstD q : D ω))) (PyData.depthAll (toPL (r.map lstD))) ≤ 1
      have h1 : PyData.depth (toP (lstD q : D ω)) = 1 := rfl
      rw [h1]
      have := ih.2
      omega
theorem shaped_lsts {ω : Type} {ps : List (Int × Int)} : SeqAt.shaped (toP (D.lst (ω := ω) (ps.map lstD))) = true := by
  have h := lay_lsts (ω := ω) (ps := ps)
  show (PyData.canLayAll0 (toPL (ps.map lstD)) && decide (PyData.depthAll (toPL (ω := ω) (ps.map lstD)) + 1 ≤ 64)) = true
  rw [h.1, decide_eq_true (by have := h.2; omega)]
  rfl
def mkObj : D (Int × Int) → D (Int × Int)
  | .tup [.int a, .int b] => .obj (a, b)
  | d => d
def mkLst {ω : Type} : D ω → D ω
  | .tup l => .lst l
  | d => d
theorem filter_yes {ω : Type} {l : List (D ω)} : (l.filter fun _ => true) = l := List.filter_eq_self.mpr fun _ _ => rfl
theorem map_obj {l : List (Int × Int)} : (((l.map (pairD (ω := Int × Int))).filter fun _ => true).map mkObj) = l.map D.obj := by
  rw [filter_yes, List.map_map]
  rfl
theorem map_lst {ω : Type} {l : List (Int × Int)} : (((l.map (pairD (ω := ω))).filter fun _ => true).map mkLst) = l.map lstD := by
  rw [filter_yes, List.map_map]
  rfl
section
variable {K : PySem.W.Frag} {C : Addr} {G G1 H : Hp} {te ta tb : TE} {σ : L2.St} {w : FilS} {d : D FilS} {b : Bool}
/-- f.terms() -/
theorem x_terms (h : EvD K (FilO K C) te σ G (.obj w)) : ∀ (H1 : Hp), Ex G H1 → ∀ Q : VK, (∀ (l : Addr) (G2 H2 : Hp), H1 l = none → Le G H1 G2 H2 → At K (FilO K C) G2 (.lst (w.ps.map pairD)) (.ref l) → Q (.ref l) H2) → tMeth C "terms" (spTermsN K C) [] E0 te tNil σ H1 Q := fun H1 e Q k =>
  h H1 e _ fun v G2 H2 l a => by
    obtain ⟨x, rfl, dx, tp, o, ts, kd, g1, g2, g3, g4, g5⟩ := at_obj.mp a
    exact ⟨x, dx, _, rfl, l.e _ _ g1, lkN (by decide +kernel) (by decide +kernel) (by decide +kernel), G2, w, .ref x, rfl, l.e, a, fun u G3 H3 hu l3 al => k u G3 H3 (l.back hu) (l.trans l3) al⟩
theorem ed_termsN (h : EvD K (FilO K C) te σ G (.obj w)) : EvD K (FilO K C) (tMeth C "terms" (spTermsN K C) [] E0 te tNil) σ G (.lst (w.ps.map pairD)) := fun H1 e Q k => x_terms h H1 e Q fun l G2 H2 _ le al => k _ G2 H2 le al
theorem et_eqF (c : FilC K C) (t : FilT K C) (hn : ∀ d : D FilS, PySem.W.notFirst K C (tyD (fun _ => .ref C) d) = true) (h : EvD K (FilO K C) ta σ G (.obj w)) (h2 : EvD K (FilO K C) tb σ G d) (hb : eqF w d = b) : EvT (tTest (tOp (rEqOwn K C (SpD K (FilO K C) rEqF) E0) ta tb)) σ G b := by
  subst hb
  exact et_test (ev_eqF (T := fun _ => .ref C) (ot_fil c t).ty hn h h2 ⟨w, d, rfl, rfl⟩)
theorem et_neF (c : FilC K C) (t : FilT K C) (hn : ∀ d : D FilS, PySem.W.notFirst K C (tyD (fun _ => .ref C) d) = true) (h : EvD K (FilO K C) ta σ G (.obj w)) (h2 : EvD K (FilO K C) tb σ G d) (hb : eqF w d = b) : EvT (tTest (tOp (rNeOwn K C (SpD K (FilO K C) rEqF) E0) ta tb)) σ G (!b) := by
  subst hb
  exact et_test (ev_neF (T := fun _ => .ref C) (ot_fil c t).ty hn h h2 ⟨w, d, rfl, rfl⟩)
theorem eqF_self : eqF w (.obj w) = true := by simp [eqF]
theorem eqF_ps {p q : Int} {a b : List (Int × Int)} (h : a ≠ b) : eqF ⟨p, a⟩ (.obj ⟨q, b⟩) = false := by simp [eqF, h]
theorem eqF_p {p q : Int} {a b : List (Int × Int)} (h : p ≠ q) : eqF ⟨p, a⟩ (.obj ⟨q, b⟩) = false := by simp [eqF, h]
end
end SR
set_option maxRecDepth 100000
set_option maxHeartbeats 4000000
namespace SR
open PySem PySem.Spec PyProof.Rows L2 Evl
section
variable {P : Program} {w : World} {K : PySem.W.Frag} {mg : Str → Option Value} {base : Heap} {C : Addr}
/-! ### check_primes, nothing raised -/
def rCheck : List (D FilS) → D FilS → Prop := fun ds r => ∃ w u, ds = [.obj w, .obj u] ∧ w.p = u.p ∧ r = .non
abbrev check_primes_S : Stmt := topS 53
abbrev check_primes_N : List Str := ["f", "g"]
theorem check_primes_sc : FnScope check_primes_N ["f", "g"] (defScope check_primes_S) := ⟨rfl, rfl, rfl, by decide +kernel, rfl, by decide +kernel, by decide +kernel⟩
theorem ok_check {f : Addr} {fd : FuncData} (F : Fun K "check_primes" "check_primes" check_primes_S f fd) (c : FilC K C) : FnOk P w K mg base CX0 1 f fd ["f", "g"] (SpD K (FilO K C) rCheck) := by
  refine F.ok check_primes_sc (fun vs H Q E h => ?_) (fun cdv A outer s H vs Q E hr h => ?_)
  · obtain ⟨G, ds, d, e, as, ⟨w0, u, rfl, _, rfl⟩, k⟩ := h
    exact as.len
  · obtain ⟨G, ds, d, e, as, ⟨w0, u, rfl, hp, rfl⟩, k⟩ := h
    obtain ⟨v, r, rfl, a, n⟩ := atL_cons.mp as
    obtain ⟨v2, r, rfl, a2, n⟩ := atL_cons.mp n
    obtain rfl := atL_nil.mp n
    refine ⟨_, (pss_one (ps_if (pt_cmpR op_ne (pe_fldK K (pv 0)) (pe_fldK K (pv 1)) (nomark _)) (pss_one ps_never) pss_nil)), ?_⟩
    exact s_ifG (b := false) (et_is (et_test (ev_op (ev_prime c (ed_var (i := 0) rfl a)) (ev_prime c (ed_var (i := 1) rfl a2)) (rv_ne rfl))) (by rw [hp]; simp)) e (fun z => nomatch z) fun _ H2 l => k _ G H2 l (at_non.mpr rfl)
/-- coefficients of a filter -/
def Small (a : PL) : Prop := ∀ q ∈ a, 0 ≤ q.2 ∧ q.2 < 8
theorem small_coll {p : Int} (hp : primes.contains p = true) {a : PL} : Small (coll p a) := fun q hq => by
  obtain ⟨o, ho, rfl⟩ := List.mem_map.mp hq
  have h1 := coef_pos (p := p) (prime_pos hp) (rows := a) (o := o)
  have h2 := prime_lt hp
  show 0 ≤ coef p a o ∧ coef p a o < 8
  omega
/-! ### product -/
def rProd : List (D FilS) → D FilS → Prop := fun ds r => ∃ w u, ds = [.obj w, .obj u] ∧ primes.contains w.p = true ∧ Small w.ps ∧ w.ps.length * u.ps.length ≤ 30000 ∧ r = .obj ⟨w.p, coll w.p (prodL w.ps u.ps)⟩
def mulD : D FilS → D FilS → D FilS
  | .tup [.int a, .int b], .tup [.int c, .int d] => pairD (a + c, b * d)
  | d, _ => d
theorem prod_map {a b : PL} : ((a.map pairD).flatMap fun d => (b.map pairD).map (mulD d)) = (prodL a b).map (pairD (ω := FilS)) := by
  induction a with
  | nil => rfl
  | cons q a ih =>
    rw [List.map_cons, List.flatMap_cons, ih, prodL_cons, List.map_append, List.map_map]
    show _ = (b.map fun r => (q.1 + r.1, q.2 * r.2)).map pairD ++ _
    rw [List.map_map]
    rfl
end
end SR
set_option maxRecDepth 100000
set_option maxHeartbeats 4000000
namespace SR
open PySem PySem.Spec PyProof.Rows L2 Evl
section
variable {P : Program} {w : World} {K : PySem.W.Frag} {mg : Str → Option Value} {base : Heap} {C : Addr}
/-! ### f * g -/
def rMulF : List (D FilS) → D FilS → Prop := fun ds r => ∃ w u, ds = [.obj w, .obj u] ∧ w.p = u.p ∧ primes.contains w.p = true ∧ Small w.ps ∧ w.ps.length * u.ps.length ≤ 30000 ∧ r = .obj ⟨w.p, coll w.p (prodL w.ps u.ps)⟩
/-! ### f ** n -/
theorem coll_one {p : Int} (hp : primes.contains p = true) : coll p [(0, 1)] = [(0, 1)] := by
  have h' : p = 2 ∨ p = 3 ∨ p = 5 ∨ p = 7 := by
    have := List.contains_iff_mem.mp hp
    simpa [primes] using this
  rcases h' with rfl | rfl | rfl | rfl <;> simp [coll, sums, step, putI, getI, srt, coef]
theorem primes_or {p : Int} (hp : primes.contains p = true) : p = 2 ∨ p = 3 ∨ p = 5 ∨ p = 7 := by
  have := List.contains_iff_mem.mp hp
  simpa [primes] using this
end
end SR
set_option maxRecDepth 100000
set_option maxHeartbeats 4000000
namespace SR
open PySem PySem.Spec PyProof.Rows L2 Evl
section
variable {P : Program} {w : World} {K : PySem.W.Frag} {mg : Str → Option Value} {base : Heap} {C : Addr}
theorem q_augI {G H : Hp} {i : Nat} {te : TE} {σ : L2.St} {De : Ends} {tz : TS} {Cc : Int → Int → Prop} {g : Int → Int → V} {x y : Int} (hv : σ[i]? = some (some (.int x))) (h : Ev te σ G (.int y)) (e : Ex G H) (hc : Cc x y) (k : ∀ H2, Le G H G H2 → tz De (σ.set i (some (g x y))) H2) : tSeq (tAug i te (rI Cc g)) tz De σ H :=
  ⟨_, hv, h H e _ fun H2 e2 => ⟨x, y, rfl, rfl, hc, k H2 (Le.heap e e2)⟩⟩
def rPowF : List (D FilS) → D FilS → Prop := fun ds r => ∃ (w : FilS) (n : Nat), ds = [.obj w, .int (n : Int)] ∧ n ≤ 12 ∧ primes.contains w.p = true ∧ Small w.ps ∧ Bnd 3 w.ps ∧ w.ps.length ≤ 10 ∧ r = .obj ⟨w.p, powL w.p w.ps n⟩
def strD (p : Int) : D FilS → D FilS
  | .tup [.int a, .int b] => pairD (p * a, b)
  | d => d
theorem str_map {p : Int} {a : PL} : (((a.map (pairD (ω := FilS))).filter fun _ => true).map (strD p)) = (str p a).map pairD := by
  rw [filter_yes, List.map_map]
  unfold str
  rw [List.map_map]
  rfl
theorem small_pow {p : Int} (hp : primes.contains p = true) {a : PL} : ∀ n, Small (powL p a n)
  | 0 => fun q hq => by rw [List.mem_singleton.mp hq]; exact ⟨by decide, by decide⟩
  | n + 1 => small_coll hp
end
end SR
set_option maxRecDepth 100000
set_option maxHeartbeats 4000000
namespace SR
open PySem PySem.Spec PyProof.Rows L2 Evl
/-- unlocked again -/
theorem le_unlock {G H G2 H2 : Hp} {a : Addr} {u : HO} {od : Obj} (hm : G a = some u) (e : Ex G H) (l : Le (upd G a (.frz od u)) (upd H a (.frz od u)) G2 H2) : Le G H (upd G2 a u) (upd H2 a u) := by
  refine ⟨fun x y q => ?_, fun x y q => ?_, fun x y q => ?_, fun x hg hh => ?_, fun x ps q => ?_⟩
  · by_cases z : x = a
    · subst z; rw [upd_same, ← q]; exact (e x _ hm).symm
    · rw [upd_ne z]; exact l.h x y (by rw [upd_ne z]; exact q)
  · by_cases z : x = a
    · subst z; rw [upd_same, ← q]; exact hm.symm
    · rw [upd_ne z]; exact l.g x y (by rw [upd_ne z]; exact q)
  · by_cases z : x = a
    · subst z; rw [upd_same] at q ⊢; exact q
    · rw [upd_ne z] at q ⊢; exact l.e x y q
  · by_cases z : x = a
    · subst z; rw [hm] at hg; cases hg
    · rw [upd_ne z]; exact l.f x (by rw [upd_ne z]; exact hg) (by rw [upd_ne z]; exact hh)
  · by_cases z : x = a
    · subst z; rw [upd_same] at q; rw [← q]; exact hm
    · rw [upd_ne z] at q
      have := l.t x ps q
      rwa [upd_ne z] at this
theorem ex_upd {G H : Hp} {a : Addr} {o : HO} (e : Ex G H) : Ex (upd G a o) (upd H a o) := fun x y q => by
  by_cases z : x = a
  · subst z; rw [upd_same] at q ⊢; exact q
  · rw [upd_ne z] at q ⊢; exact e x y q
theorem upd_comm {H : Hp} {a b : Addr} {x y : HO} (n : a ≠ b) : upd (upd H a x) b y = upd (upd H b y) a x := by
  funext z
  by_cases h1 : z = b
  · subst h1; rw [upd_same, upd_ne (Ne.symm n), upd_same]
  · rw [upd_ne h1]
    by_cases h2 : z = a
    · subst h2; rw [upd_same, upd_same]
    · rw [upd_ne h2, upd_ne h2, upd_ne h1]
section
variable {P : Program} {w : World} {K : PySem.W.Frag} {mg : Str → Option Value} {base : Heap} {C : Addr} {ω : Type} {O : OI ω}
end
end SR
set_option maxRecDepth 100000
set_option maxHeartbeats 4000000
namespace SR
open PySem PySem.Spec PyProof.Rows L2 Evl
section
variable {P : Program} {w : World} {K : PySem.W.Frag} {mg : Str → Option Value} {base : Heap} {ω : Type} {O : OI ω} {Ty : ω → Value}
/-! ### _law_drawn -/
def pDrawn : List (D ω) → Prop := fun ds => ∃ p most reach, ds = [.int p, .int most, .int reach] ∧ primes.contains p = true ∧ 0 ≤ most ∧ most ≤ 8 ∧ 0 ≤ reach ∧ reach ≤ 100
def rDrawn : List (D ω) → D ω → Prop := fun ds d => ∃ (p most reach : Int) (rows : PL), ds = [.int p, .int most, .int reach] ∧ d = .dic (coll p rows) ∧ (rows.length : Int) ≤ most ∧ Bnd reach rows
abbrev _law_drawn_S : Stmt := topS 109
abbrev _law_drawn_N : List Str := ["_law_spring_here", "_law_prime_here", "_law_most", "_law_reach", "_law_terms", "_law_k", "_law_offset"]
theorem _law_drawn_sc : FnScope _law_drawn_N ["_law_spring_here", "_law_prime_here", "_law_most", "_law_reach"] (defScope _law_drawn_S) := ⟨rfl, rfl, rfl, by decide +kernel, rfl, by decide +kernel, by decide +kernel⟩
theorem ok_drawn {f : Addr} {fd : FuncData} (F : Fun K "_law_drawn" "_law_drawn" _law_drawn_S f fd) (B : Bi mg) (h__law_draw : DefOk P w K mg base 1 "_law_draw" ["_law_spring_here", "_law_many"] (SpX K O 1 pDraw rDraw)) (h__law_held : DefOk P w K mg base 1 "_law_held" ["_law_prime_here", "_law_terms"] (SpD K O rHeld)) :
    FnOk P w K mg base CX0 2 f fd ["_law_spring_here", "_law_prime_here", "_law_most", "_law_reach"] (SpX K O 20 pDrawn rDrawn) := by
  refine F.ok _law_drawn_sc (fun vs H Q E h => ?_) (fun cdv A outer s0 H vs Q E hr h => ?_)
  · obtain ⟨G, s, q, n, ds, ws, rfl, e, gs, gq, spr, hn, as, ⟨p, m, re, rfl, _⟩, k⟩ := h
    show (V.ref s :: ws).length = 4
    rw [List.length_cons, as.len]
    rfl
  · obtain ⟨G, s, q, n, ds, ws, rfl, e, gs, gq, spr, hn, as, ⟨p, most, reach, rfl, hp, hm0, hm8, hr0, hr9⟩, k⟩ := h
    obtain ⟨v1, r1, rfl, a1, n1⟩ := atL_cons.mp as
    obtain rfl := at_int.mp a1
    obtain ⟨v2, r2, rfl, a2, n2⟩ := atL_cons.mp n1
    obtain rfl := at_int.mp a2
    obtain ⟨v3, r3, rfl, a3, n3⟩ := atL_cons.mp n2
    obtain rfl := at_int.mp a3
    obtain rfl := atL_nil.mp n3
    have A0 : At2 s q G H n := ⟨e, gs, gq, spr⟩
    have hp2 := prime_lt hp
    refine ⟨_, (pss_cons (ps_set (i := 4) _law_drawn_sc.nd rfl (Or.inl rfl) (pe_lst pa_nil))
    (pss_cons (ps_for PassesOwn.never rfl (pi_range1 (by rfl) B.range (pa_cons (pe_callD h__law_draw (hr.mono (by first | decide | exact Nat.le_refl _)) (pa_cons (pv 0) (pa_cons (pe_op op_add (pv 2) pe_int) pa_nil))) pa_nil)) (pg_name (i := 5) _law_drawn_sc.nd rfl (Or.inl rfl)) (pss_cons (ps_set (i := 6) _law_drawn_sc.nd rfl (Or.inl rfl) (pe_op op_sub (pe_callD h__law_draw (hr.mono (by first | decide | exact Nat.le_refl _)) (pa_cons (pv 0) (pa_cons (pe_op op_add (pe_op op_mul pe_int (pv 3)) pe_int) pa_nil))) (pv 3)))
    (pss_one (ps_expr (pe_bm PySem.F.plainAttrs_list PySem.F.slot_list_append PySem.F.type_list_append mt_append (pv 4) (pa_cons (pe_tup (pa_cons (pv 6) (pa_cons (pe_callD h__law_draw (hr.mono (by first | decide | exact Nat.le_refl _)) (pa_cons (pv 0) (pa_cons (pv 1) pa_nil))) pa_nil))) pa_nil))))))
    (pss_one (ps_ret (pe_callD h__law_held (hr.mono (by first | decide | exact Nat.le_refl _)) (pa_cons (pv 1) (pa_cons (pv 4) pa_nil))))))), ?_⟩
    refine ⟨by show 0 ≤ sizeLine; exact Nat.zero_le _, fun fa hfa => ?_⟩
    have A1 : At2 s q G (upd H fa (.lst [])) n := A0.le (Le.newM e hfa)
    have lf : LeX s q G H G (upd H fa (.lst [])) := (Le.newM e hfa).x
    have gfa : G fa = none := none_of_ex e hfa
    have fs : fa ≠ s := by intro z; subst z; exact spr.sne hfa
    have fq : fa ≠ q := by intro z; subst z; exact spr.qne hfa
    refine x_draw A1 (by omega) rfl (eda_int (ev_op (ev_var (i := 2) rfl) ev_c rv_I0)) (by omega) (by omega) fun x G2 H2 hx0 hx1 l2 A2 => ⟨x, rfl, by omega, by omega, ?_⟩
    have hf2 : H2 fa = some (.lst []) := l2.h fa _ fs fq upd_same
    have gf2 : G2 fa = none := l2.gnone gfa (by rw [upd_same]; exact fun z => nomatch z)
    refine for_range (lo := 0) (n := x.toNat) (fun i σ' H' => ∃ (Gi : Hp) (rows : PL) (us : List V) (x5 x6 : Option V), σ' = [some (.ref s), some (.int p), some (.int most), some (.int reach), some (.ref fa), x5, x6] ∧ LeX s q G H Gi H' ∧ At2 s q Gi H' (n + 1 + 2 * i) ∧ H' fa = some (.lst us) ∧ Gi fa = none ∧ AtL K O Gi (rows.map pairD) us ∧ rows.length = i ∧ Bnd reach rows)
      ⟨G2, [], [], none, none, rfl, lf.trans l2, A2, hf2, gf2, atL_nil.mpr rfl, rfl, fun _ z => (nomatch z)⟩ ?_ ?_
    · rintro i σ' H3 hi ⟨Gi, rows, us, x5, x6, rfl, l3, A3, hu, gf, au, hrl, hbd⟩
      show tSeq _ _ _ _ H3
      refine x_draw A3 (by omega) rfl (many := 2 * reach + 1) (eda_int (ev_op (ev_op ev_c (ev_var (i := 3) rfl) (rv_I (Or.inl (by decide)))) ev_c rv_I0)) (by omega) (by omega) fun o G4 H4 ho0 ho1 l4 A4 => ?_
      have hu4 := l4.h fa _ fs fq hu
      have gf4 := l4.gnone gf (by rw [hu]; exact fun z => nomatch z)
      refine ⟨.int reach, rfl, o, reach, rfl, rfl, ?_⟩
      refine ⟨_, rfl, Or.inl ⟨rfl, us, sq_of hu4⟩, ⟨_, rfl, ?_⟩⟩
      refine x_draw A4 (by omega) rfl (eda_int (ev_var (i := 1) rfl)) (by omega) (by omega) fun c G5 H5 hc0 hc1 l5 A5 => ?_
      have hu5 := l5.h fa _ fs fq hu4
      have gf5 := l5.gnone gf4 (by rw [hu4]; exact fun z => nomatch z)
      refine ⟨by show 2 ≤ sizeLine; exact sz_of (by decide), fun t1 ht1 => ?_⟩
      have l6 : Le G5 H5 (upd G5 t1 (.tup [.int (o - reach), .int c])) (upd H5 t1 (.tup [.int (o - reach), .int c])) := Le.new A5.e ht1
      have A6 := A5.le l6
      have hu6 := l6.h fa _ hu5
      have gf6 := l6.gnone gf5 (by rw [hu5]; exact fun z => nomatch z)
      have at1 : At K O (upd G5 t1 (.tup [.int (o - reach), .int c])) (pairD (o - reach, c)) (.ref t1) := at_tup.mpr ⟨t1, _, rfl, st_of upd_same, atL_cons.mpr ⟨_, _, rfl, at_int.mpr rfl, AtL.one (at_int.mpr rfl)⟩⟩
      have ul : us.length = i := by rw [au.len, List.length_map, hrl]
      refine ⟨fa, us, .ref t1, rfl, rfl, hu6, sz_lt (by omega), ?_⟩
      have lx := (((l3.trans l4).trans l5).trans l6.x).mut (o := .lst (us ++ [.ref t1])) hfa gf6
      refine ⟨_, rows ++ [(o - reach, c)], us ++ [.ref t1], _, _, rfl, lx, ?_, upd_same, gf6, ?_, by simp [hrl], hbd.app fun q hq => by rw [List.mem_singleton.mp hq]; show -reach ≤ o - reach ∧ o - reach ≤ reach; omega⟩
      · have A7 := A6.mut (o := .lst (us ++ [.ref t1])) gf6 fs fq
        exact ⟨A7.e, A7.gs, A7.gq, A7.spr.keep (fun _ _ z => z) (by omega)⟩
      · rw [List.map_append]
        exact (au.mono ((l4.g.trans l5.g).trans l6.g)).app (AtL.one at1)
    · rintro σ' H3 ⟨Gi, rows, us, x5, x6, rfl, l3, A3, hu, gf, au, hrl, hbd⟩
      have lx := LeX.fix e l3 hfa hu
      have hat : At K O (upd Gi fa (.lst us)) (.lst (rows.map pairD)) (.ref fa) := at_lst.mpr ⟨fa, us, rfl, upd_same, au.mono (Ex.new gf)⟩
      refine ed_call (d := .dic (coll p rows)) (eda_cons (ed_of (ev_var (i := 1) rfl) (at_int.mpr rfl)) (eda_cons (ed_var (i := 4) rfl hat) eda_nil)) ⟨p, rows, rfl, by omega, by omega, rfl⟩ H3 lx.e _ fun v4 G4 H4 l4 a4 => ?_
      exact k _ v4 G4 H4 ⟨p, most, reach, rows, rfl, rfl, by omega, hbd⟩ (lx.trans l4.x) (A3.spr.keep (fun a o z => l4.h a o z) (by omega)) a4
end
end SR
set_option maxRecDepth 100000
set_option maxHeartbeats 4000000
namespace SR
open PySem PySem.Spec PyProof.Rows L2 Evl
section
variable {P : Program} {w : World} {K : PySem.W.Frag} {mg : Str → Option Value} {base : Heap} {C : Addr}
/-! ### _law_made -/
def rMade : List (D FilS) → D FilS → Prop := fun ds r => ∃ (p : Int) (m : PL), ds = [.int p, .dic m] ∧ primes.contains p = true ∧ (m.map (·.1)).Nodup ∧ m.length ≤ 20000 ∧ coll p m = m ∧ r = .obj ⟨p, m⟩
abbrev _law_made_S : Stmt := topS 110
abbrev _law_made_N : List Str := ["_law_prime_here", "_law_held_here"]
theorem _law_made_sc : FnScope _law_made_N ["_law_prime_here", "_law_held_here"] (defScope _law_made_S) := ⟨rfl, rfl, rfl, by decide +kernel, rfl, by decide +kernel, by decide +kernel⟩
theorem ok_made {f C_Filter : Addr} {fd : FuncData} (F : Fun K "_law_made" "_law_made" _law_made_S f fd) (h_Filter : MakeOk P w K mg base C_Filter 4 "Filter" ["self", "prime", "terms"] [] (spInit K C_Filter)) (h__law_pairs : DefOk P w K mg base 1 "_law_pairs" ["_law_held_here"] (SpD K (FilO K C_Filter) rPairs)) :
    FnOk P w K mg base CX0 6 f fd ["_law_prime_here", "_law_held_here"] (SpD K (FilO K C_Filter) rMade) := by
  refine F.ok _law_made_sc (fun vs H Q E h => ?_) (fun cdv A outer s0 H vs Q E hr h => ?_)
  · obtain ⟨G, ds, d, e, as, ⟨p, m, rfl, _⟩, k⟩ := h
    exact as.len
  · obtain ⟨G, ds, d, e, as, ⟨p, m, rfl, hp, hnd, hz, hm, rfl⟩, k⟩ := h
    obtain ⟨v1, r1, rfl, a1, n1⟩ := atL_cons.mp as
    obtain ⟨v2, r2, rfl, a2, n2⟩ := atL_cons.mp n1
    obtain rfl := atL_nil.mp n2
    obtain rfl := at_int.mp a1
    refine ⟨_, (pss_one (ps_ret (pe_makeD h_Filter (hr.mono (by first | decide | exact Nat.le_refl _)) (pa_cons (pv 0) (pa_cons (pe_callD h__law_pairs (hr.mono (by first | decide | exact Nat.le_refl _)) (pa_cons (pv 1) pa_nil)) pa_nil))))), ?_⟩
    refine s_retD ?_ e k
    have h2 := ed_make (K := K) (C := C_Filter) (E := E0) (p := p) (rows := m) (d := .lst (m.map pairD)) (eda_cons (ed_of (ev_var (i := 0) (σ := [some (.int p), some v2]) rfl) (at_int.mpr rfl)) (eda_cons (ed_call (R := rPairs) (E := E0) (d := .lst (m.map pairD)) (eda_cons (ed_var (i := 1) rfl a2) eda_nil) ⟨m, rfl, hnd, by omega, rfl⟩) eda_nil)) hp rowsD_pairs (by omega)
    rw [hm] at h2
    exact h2
/-! ### _law_is -/
def rIs : List (D FilS) → D FilS → Prop := fun ds r => ∃ (p : Int) (m : PL), ds = [.obj ⟨p, m⟩, .int p, .dic m] ∧ (m.map (·.1)).Nodup ∧ m.length ≤ 20000 ∧ r = .bl true
abbrev _law_is_S : Stmt := topS 111
abbrev _law_is_N : List Str := ["_law_f", "_law_prime_here", "_law_held_here"]
theorem _law_is_sc : FnScope _law_is_N ["_law_f", "_law_prime_here", "_law_held_here"] (defScope _law_is_S) := ⟨rfl, rfl, rfl, by decide +kernel, rfl, by decide +kernel, by decide +kernel⟩
theorem ok_is {f C_Filter : Addr} {fd : FuncData} (F : Fun K "_law_is" "_law_is" _law_is_S f fd) (B : Bi mg) (c : FilC K C_Filter) (t : FilT K C_Filter) (g_Filter : mg "Filter" = some (.ref C_Filter)) (h__law_same : DefOk P w K mg base 4 "_law_same" ["_law_found", "_law_due"] (SpD K (FilO K C_Filter) (rSm 4))) (h__law_pairs : DefOk P w K mg base 1 "_law_pairs" ["_law_held_here"] (SpD K (FilO K C_Filter) rPairs))
    (h_m_terms : MethOk P w K mg base C_Filter 1 "terms" ["self"] (SpD K (FilO K C_Filter) rTerms)) : FnOk P w K mg base CX0 5 f fd ["_law_f", "_law_prime_here", "_law_held_here"] (SpD K (FilO K C_Filter) rIs) := by
  have cl := c.cl
  refine F.ok _law_is_sc (fun vs H Q E h => ?_) (fun cdv A outer s0 H vs Q E hr h => ?_)
  · obtain ⟨G, ds, d, e, as, ⟨p, m, rfl, _⟩, k⟩ := h
    exact as.len
  · obtain ⟨G, ds, d, e, as, ⟨p, m, rfl, hnd, hz, rfl⟩, k⟩ := h
    obtain ⟨v1, r1, rfl, a1, n1⟩ := atL_cons.mp as
    obtain ⟨v2, r2, rfl, a2, n2⟩ := atL_cons.mp n1
    obtain ⟨v3, r3, rfl, a3, n3⟩ := atL_cons.mp n2
    obtain rfl := atL_nil.mp n3
    obtain rfl := at_int.mp a2
    refine ⟨_, (pss_one (ps_ret (pe_and (pe_callB (call_isiK' K) (by rfl) B.isinstance (by decide +kernel) (pa_cons (pv 0) (pa_cons (pe_glob (v := .ref C_Filter) rfl g_Filter rfl) pa_nil))) (pe_one (pe_callD h__law_same (hr.mono (by first | decide | exact Nat.le_refl _)) (pa_cons (pe_lst (pa_cons (pe_fldK K (pv 0)) (pa_cons (pe_methD0 cl h_m_terms (hr.mono (by first | decide | exact Nat.le_refl _)) (pv 0)) pa_nil))) (pa_cons (pe_lst (pa_cons (pv 1) (pa_cons (pe_callD h__law_pairs (hr.mono (by first | decide | exact Nat.le_refl _)) (pa_cons (pv 2) pa_nil)) pa_nil))) pa_nil))))))), ?_⟩
    have hf : EvD K (FilO K C_Filter) (tVar 0) [some v1, some (.int p), some v3] G (.obj ⟨p, m⟩) := ed_var rfl a1
    refine s_retD (ed_of (v := .bl true) (ev_is (ev_andV (a := true) (b := true) (isi_own c t hf) fun _ => ?_) rfl) (at_bl.mpr rfl)) e k
    refine ev_bl (ed_call (d := .bl true) (eda_cons (d := .lst [.int p, .lst (m.map pairD)]) (ed_lst (eda_cons (ed_of (ev_prime c hf) (at_int.mpr rfl)) (eda_cons (ed_meth hf eda_nil ⟨⟨p, m⟩, rfl, rfl⟩) eda_nil)) (by show 2 ≤ 100000; decide))
      (eda_cons (d := .lst [.int p, .lst (m.map pairD)]) (ed_lst (eda_cons (ed_of (ev_var (i := 1) rfl) (at_int.mpr rfl)) (eda_cons (ed_call (d := .lst (m.map pairD)) (eda_cons (ed_var (i := 2) rfl a3) eda_nil) ⟨m, rfl, hnd, by omega, rfl⟩) eda_nil)) (by show 2 ≤ 100000; decide)) eda_nil)) ⟨.lst [.int p, .lst (m.map pairD)], rfl, ?_, ?_, ?_, rfl⟩)
    · show max 0 (max (depL (m.map pairD) + 1) 0) + 1 < 4
      have := depL_pairs (ω := FilS) (m := m)
      omega
    · show (noObjL (m.map pairD) && true) = true
      rw [noObj_pairs]
      rfl
    · show (decide (2 ≤ 30000) && (true && ((decide ((m.map (pairD (ω := FilS))).length ≤ 30000) && allOkL (m.map pairD)) && true))) = true
      rw [allOk_pairs, decide_eq_true (show (m.map (pairD (ω := FilS))).length ≤ 30000 by rw [List.length_map]; omega)]
      rfl
end
end SR
set_option maxRecDepth 100000
set_option maxHeartbeats 4000000
namespace SR
open PySem PySem.Spec PyProof.Rows L2 Evl
/-! ### filters and tables -/
structure TabS where
  p : Int
  w : Int
  ls : List (List FilS)
inductive Ob where | fil (w : FilS) | tab (t : TabS)
def fo (f : FilS) : D Ob := .obj (.fil f)
def rwF (l : List FilS) : D FilS := .tup (l.map D.obj)
def linesF (ls : List (List FilS)) : D FilS := .tup (ls.map rwF)
def rwD (l : List FilS) : D Ob := .tup (l.map fo)
def rwL (l : List FilS) : D Ob := .lst (l.map fo)
def linesD (ls : List (List FilS)) : D Ob := .tup (ls.map rwD)
theorem dmapL_map {α β : Type} {f : α → β} {γ : Type} {g : γ → D α} : ∀ {l : List γ}, dmapL f (l.map g) = l.map fun x => dmap f (g x)
  | [] => rfl
  | x :: l => by
    show dmap f (g x) :: dmapL f (l.map g) = _
    rw [dmapL_map (l := l)]
    rfl
theorem dmap_row {l : List FilS} : dmap Ob.fil (rwF l) = rwD l := by
  show D.tup (dmapL Ob.fil (l.map D.obj)) = D.tup (l.map fo)
  rw [dmapL_map]
  rfl
theorem dmap_lines {ls : List (List FilS)} : dmap Ob.fil (linesF ls) = linesD ls := by
  show D.tup (dmapL Ob.fil (ls.map rwF)) = D.tup (ls.map rwD)
  rw [dmapL_map]
  congr 1
  exact List.map_congr_left fun l _ => dmap_row
def tflds (p w : Int) (lp : Addr) : List (Str × V) := [("prime", .int p), ("width", .int w), ("lines", .ref lp)]
def TabAt (K : PySem.W.Frag) (CF CT : Addr) (H : Hp) (a : Addr) (t : TabS) : Prop := ∃ dx lp, H a = some (.ins CT dx (tflds t.p t.w lp)) ∧ At K (FilO K CF) H (linesF t.ls) (.ref lp)
def ObO (K : PySem.W.Frag) (CF CT : Addr) : OI Ob where
  at_ := fun H a o => match o with | .fil w => FilAt K CF H a w | .tab t => TabAt K CF CT H a t
  mono := fun {H H' a o} e h => match o, h with
    | .fil w, h => (FilO K CF).mono e h
    | .tab t, ⟨dx, lp, h1, h2⟩ => ⟨dx, lp, e _ _ h1, h2.mono e⟩
def obC (CF CT : Addr) : Ob → Addr | .fil _ => CF | .tab _ => CT
theorem lifts_fil {K : PySem.W.Frag} {CF CT : Addr} : Lifts (FilO K CF) (ObO K CF CT) Ob.fil := fun _ _ _ => Iff.rfl
theorem insC {K : PySem.W.Frag} {CF CT : Addr} : InsC (ObO K CF CT) (obC CF CT) := fun H a o h => match o, h with
  | .fil w, ⟨dx, tp, oo, ts, kd, h1, _⟩ => ⟨dx, _, h1⟩
  | .tab t, ⟨dx, lp, h1, _⟩ => ⟨dx, _, h1⟩
/-- what the top has made of both classes -/
structure TabC (K : PySem.W.Frag) (CF CT : Addr) : Prop where
  f : FilC K CF
  ft : FilT K CF
  t : Cls K CT
  tt : FilT K CT
  n1 : NoAttr K CT "prime"
  n2 : NoAttr K CT "width"
  n3 : NoAttr K CT "lines"
  sft : PySem.W.kitOne K (.ref CT) (.ref CF) = some false
  stf : PySem.W.kitOne K (.ref CF) (.ref CT) = some false
section
variable {K : PySem.W.Frag} {CF CT : Addr} {G : Hp} {te : TE} {σ : L2.St} {d : D Ob}
theorem ot_ob (c : TabC K CF CT) : OT K (ObO K CF CT) (fun o => .ref (obC CF CT o)) where
  ty := fun H a o h => match o, h with
    | .fil w, ⟨dx, tp, oo, ts, kd, h1, _⟩ => .base (.ins h1 c.f.cl c.ft.ca c.ft.cn c.ft.ct c.ft.cm)
    | .tab t, ⟨dx, lp, h1, _⟩ => .base (.ins h1 c.t c.tt.ca c.tt.cn c.tt.ct c.tt.cm)
  int := fun o => by cases o; exact c.ft.int; exact c.tt.int
  bool := fun o => by cases o; exact c.ft.bool; exact c.tt.bool
  list := fun o => by cases o; exact c.ft.list; exact c.tt.list
  tuple := fun o => by cases o; exact c.ft.tuple; exact c.tt.tuple
def isFil : D Ob → Bool | .obj (.fil _) => true | _ => false
def isTab : D Ob → Bool | .obj (.tab _) => true | _ => false
theorem kit_fil (c : TabC K CF CT) (d : D Ob) : PySem.W.kitOne K (tyD (fun o => .ref (obC CF CT o)) d) (.ref CF) = some (isFil d) := by
  cases d with
  | obj o =>
    cases o with
    | fil w =>
      show (if (Value.ref CF == Value.ref CF) = true then some true else PySem.W.kitCls K (.ref CF) (.ref CF)) = some true
      rw [if_pos (by simp)]
    | tab t => exact c.sft
  | _ => exact c.ft.no _ (by unfold kinds; simp [tyD])
theorem kit_tab (c : TabC K CF CT) (d : D Ob) : PySem.W.kitOne K (tyD (fun o => .ref (obC CF CT o)) d) (.ref CT) = some (isTab d) := by
  cases d with
  | obj o =>
    cases o with
    | tab w =>
      show (if (Value.ref CT == Value.ref CT) = true then some true else PySem.W.kitCls K (.ref CT) (.ref CT)) = some true
      rw [if_pos (by simp)]
    | fil t => exact c.stf
  | _ => exact c.tt.no _ (by unfold kinds; simp [tyD])
theorem isi_fil (c : TabC K CF CT) (h : EvD K (ObO K CF CT) te σ G d) : Ev (tCB (rIsi K) (tCons te (tCons (tC (.ref CF)) tNil))) σ G (.bl (isFil d)) := fun H1 e Q q =>
  h H1 e _ fun v G2 H2 l a => ⟨v, .ref CF, _, _, _, rfl, .own _, (ty_of (ot_ob c).ty (a.mono l.e)), kit_fil c d, q H2 l.h⟩
theorem isi_tab (c : TabC K CF CT) (h : EvD K (ObO K CF CT) te σ G d) : Ev (tCB (rIsi K) (tCons te (tCons (tC (.ref CT)) tNil))) σ G (.bl (isTab d)) := fun H1 e Q q =>
  h H1 e _ fun v G2 H2 l a => ⟨v, .ref CT, _, _, _, rfl, .own _, (ty_of (ot_ob c).ty (a.mono l.e)), kit_tab c d, q H2 l.h⟩
/-- f.prime of a filter told as one of the objects -/
theorem ev_fprime (c : TabC K CF CT) {f : FilS} (h : EvD K (ObO K CF CT) te σ G (fo f)) : Ev (tFld K te "prime") σ G (.int f.p) :=
  ev_prime c.f ((ed_lift (d := .obj f) lifts_fil).mp h)
theorem tlk1 {p w : Int} {lp : Addr} : (tflds p w lp).lookup ("prime" : Str) = some (.int p) := by unfold tflds; simp [List.lookup]
theorem tlk2 {p w : Int} {lp : Addr} : (tflds p w lp).lookup ("width" : Str) = some (.int w) := by
  unfold tflds
  have h : (("width" : Str) == "prime") = false := by decide +kernel
  simp [List.lookup, h]
theorem tlk3 {p w : Int} {lp : Addr} : (tflds p w lp).lookup ("lines" : Str) = some (.ref lp) := by
  unfold tflds
  have h : (("lines" : Str) == "prime") = false := by decide +kernel
  have h2 : (("lines" : Str) == "width") = false := by decide +kernel
  simp [List.lookup, h, h2]
theorem tlkN {p w : Int} {lp : Addr} {m : Str} (h1 : (m == "prime") = false) (h2 : (m == "width") = false) (h3 : (m == "lines") = false) : (tflds p w lp).lookup m = none := by
  unfold tflds
  simp [List.lookup, h1, h2, h3]
theorem ev_tprime (c : TabC K CF CT) {t : TabS} (h : EvD K (ObO K CF CT) te σ G (.obj (.tab t))) : Ev (tFld K te "prime") σ G (.int t.p) := fun H1 e Q q =>
  h H1 e _ fun v G2 H2 l a => by
    obtain ⟨x, rfl, dx, lp, h1, h2⟩ := at_obj.mp a
    exact ⟨x, CT, dx, _, _, rfl, l.e _ _ h1, c.t, c.n1, tlk1, q H2 l.h⟩
theorem ev_twidth (c : TabC K CF CT) {t : TabS} (h : EvD K (ObO K CF CT) te σ G (.obj (.tab t))) : Ev (tFld K te "width") σ G (.int t.w) := fun H1 e Q q =>
  h H1 e _ fun v G2 H2 l a => by
    obtain ⟨x, rfl, dx, lp, h1, h2⟩ := at_obj.mp a
    exact ⟨x, CT, dx, _, _, rfl, l.e _ _ h1, c.t, c.n2, tlk2, q H2 l.h⟩
theorem ed_lines (c : TabC K CF CT) {t : TabS} (h : EvD K (ObO K CF CT) te σ G (.obj (.tab t))) : EvD K (ObO K CF CT) (tFld K te "lines") σ G (linesD t.ls) := fun H1 e Q k =>
  h H1 e _ fun v G2 H2 l a => by
    obtain ⟨x, rfl, dx, lp, h1, h2⟩ := at_obj.mp a
    refine ⟨x, CT, dx, _, _, rfl, l.e _ _ h1, c.t, c.n3, tlk3, k _ G2 H2 l ?_⟩
    rw [← dmap_lines]
    exact (at_dmap lifts_fil).mpr h2
end
section
variable {P : Program} {w : World} {K : PySem.W.Frag} {mg : Str → Option Value} {base : Heap} {CF CT : Addr}
/-! ### is_row -/
def dItems : D Ob → List (D Ob) | .lst l => l | .tup l => l | _ => []
def isFilP (p : Int) : D Ob → Bool | .obj (.fil f) => decide (f.p = p) | _ => false
def dRow (p w : Int) (d : D Ob) : Bool := dSeq d && (decide ((dLen d : Int) = w) && (dItems d).all (isFilP p))
def rRow : List (D Ob) → D Ob → Prop := fun ds r => ∃ p w d, ds = [.int p, .int w, d] ∧ dLen d ≤ 30000 ∧ r = .bl (dRow p w d)
theorem src_seq {ω : Type} {O : OI ω} {G : Hp} {i : Nat} {σ : L2.St} {l : List (D ω)} {d : D ω} (hd : d = .lst l ∨ d = .tup l) (h : EvD K O (tVar i) σ G d) : Src K O (fun σ H R => iList K (tVar i) σ H R ∨ iTup K (tVar i) σ H R) σ G l := by
  rcases hd with rfl | rfl
  · exact src_or1 (src_list h)
  · exact src_or2 (src_tup h)
theorem seq_of {d : D Ob} (h : dSeq d = true) : d = .lst (dItems d) ∨ d = .tup (dItems d) := by
  cases d <;> first | exact Or.inl rfl | exact Or.inr rfl | cases h
theorem len_items {d : D Ob} : (dItems d).length = dLen d := by cases d <;> rfl
abbrev is_row_S : Stmt := topS 62
abbrev is_row_N : List Str := ["prime", "width", "thing", "f"]
theorem is_row_sc : FnScope is_row_N ["prime", "width", "thing"] (defScope is_row_S) := ⟨rfl, rfl, rfl, by decide +kernel, rfl, by decide +kernel, by decide +kernel⟩
theorem ok_is_row {f : Addr} {fd : FuncData} (F : Fun K "is_row" "is_row" is_row_S f fd) (B : Bi mg) (c : TabC K CF CT) {C_Filter : Addr} (hCF : C_Filter = CF) (g_Filter : mg "Filter" = some (.ref C_Filter)) (h_is_list : DefOk P w K mg base 1 "is_list" ["thing"] (SpD K (ObO K CF CT) rIsList)) :
    FnOk P w K mg base CX0 2 f fd ["prime", "width", "thing"] (SpD K (ObO K CF CT) rRow) := by
  subst hCF
  refine F.ok is_row_sc (fun vs H Q E h => ?_) (fun cdv A outer s H vs Q E hr h => ?_)
  · obtain ⟨G, ds, d, e, as, ⟨p, wd, d0, rfl, _⟩, k⟩ := h
    exact as.len
  · obtain ⟨G, ds, d, e, as, ⟨p, wd, d0, rfl, hz, rfl⟩, k⟩ := h
    obtain ⟨v1, r1, rfl, a1, n1⟩ := atL_cons.mp as
    obtain ⟨v2, r2, rfl, a2, n2⟩ := atL_cons.mp n1
    obtain ⟨v, r3, rfl, a, n3⟩ := atL_cons.mp n2
    obtain rfl := atL_nil.mp n3
    obtain rfl := at_int.mp a1
    obtain rfl := at_int.mp a2
    refine ⟨_, (pss_cons (ps_if (PW.pt (pw_or (pt_not (pt_val (pe_callD h_is_list (hr.mono (by first | decide | exact Nat.le_refl _)) (pa_cons (pv 2) pa_nil)))) (pw_or1 (pt_cmpR op_ne (pe_callB (call_lenK K) (by rfl) B.len (by decide +kernel) (pa_cons (pv 2) pa_nil)) (pv 1) (nomark _))))) (pss_one (ps_ret pe_bl)) pss_nil)
    (pss_one (ps_ret (pe_callB (cr_allK K rfl) (by rfl) B.all (by decide +kernel) (pa_cons (pe_lc (own := [("f", 3)]) rfl is_row_sc.nd (pi_or (pi_list (pv 2)) (pi_tup (pv 2))) (blkOk_by (N := is_row_N) (sc := defScope is_row_S) (by decide +kernel)) (fun _ _ _ _ _ => (pg_name (i := 3) is_row_sc.nd rfl (Or.inl rfl))) (fun _ _ _ _ _ => pts_nil) (fun _ _ _ _ _ => by exact (pe_and (pe_callB (call_isiK' K) (by rfl) B.isinstance (by decide +kernel) (pa_cons (pv 3) (pa_cons (pe_glob (v := .ref C_Filter) rfl g_Filter rfl) pa_nil))) (pe_one (pe_cmpR op_eq (pe_fldK K (pv 3)) (pv 0) (nomark _)))))) pa_nil))))), ?_⟩
    have hv : EvD K (ObO K C_Filter CT) (tVar 2) [some (.int p), some (.int wd), some v, none] G d0 := ed_var rfl a
    refine q_whenG (b := !dSeq d0 || !decide ((dLen d0 : Int) = wd)) (et_or (et_not (et_ofD (ed_call (eda_cons hv eda_nil) ⟨d0, rfl, rfl⟩))) fun hs => et_is (et_test (ev_op (len_d hv (by simpa using hs)) (ev_var (i := 1) rfl) (rv_ne rfl))) (by
      congr 1
      by_cases hh : (dLen d0 : Int) = wd <;> simp [hh])) e (fun hb H2 l2 => ?_) (fun hb H2 l2 => ?_)
    · refine s_retD (d := .bl (dRow p wd d0)) (ed_of (v := .bl false) ev_c ?_) l2.e (RetG.mono l2 k)
      have : dRow p wd d0 = false := by
        unfold dRow
        cases hs : dSeq d0 <;> simp [hs] at hb ⊢
        intro z
        exact absurd z hb
      rw [this]
      exact at_bl.mpr rfl
    · have hs : dSeq d0 = true := by cases q : dSeq d0 <;> first | rfl | (rw [q] at hb; simp at hb)
      have hl : (dLen d0 : Int) = wd := by rw [hs] at hb; simpa using hb
      have hrow : dRow p wd d0 = (dItems d0).all (isFilP p) := by unfold dRow; rw [hs, hl]; simp
      rw [hrow] at k
      have h7 := ed_lc (K := K) (O := ObO K C_Filter CT) (te := tAndV (tCB (rIsi K) (tCons (tVar 3) (tCons (tC (.ref C_Filter)) tNil))) (tOp rEq (tFld K (tVar 3) "prime") (tVar 0))) (tt := tYes) (vs := [3]) (g := gName 3) (fun _ => true) (fun d => D.bl (isFilP p d)) (src_seq (seq_of hs) hv) (by rw [len_items]; omega) (fun i d x Gi Hi hd eg eh ad Q' hQ => ?_)
      · have e8 : ((dItems d0).filter fun _ => true).map (fun d => (D.bl (isFilP p d) : D Ob)) = ((dItems d0).map (isFilP p)).map D.bl := by
          rw [List.filter_eq_self.mpr (fun _ _ => rfl), List.map_map]
          rfl
        rw [e8] at h7
        refine s_retD (ed_of (ev_is (ev_allD h7) ?_) (at_bl.mpr rfl)) l2.e (RetG.mono l2 k)
        congr 1
        rw [List.all_map]
        rfl
      · refine hQ _ Hi (Ex.refl _) rfl et_yes fun _ => ed_of ?_ (at_bl.mpr rfl)
        have hx : EvD K (ObO K C_Filter CT) (tVar 3) [some (.int p), some (.int wd), some v, some x] Gi d := ed_var rfl ad
        refine ev_is (ev_andV (a := isFil d) (b := isFilP p d) (isi_fil c hx) fun hf => ?_) (by cases d with | obj o => cases o <;> simp [isFil, isFilP] | _ => rfl)
        cases d with
        | obj o =>
          cases o with
          | fil f =>
            refine ev_is (ev_op (ev_fprime c hx) (ev_var (i := 0) rfl) (rv_eq rfl)) ?_
            show V.bl (decide (V.int f.p = V.int p)) = V.bl (decide (f.p = p))
            by_cases hh : f.p = p <;> simp [hh]
          | tab t => cases hf
        | _ => cases hf
/-! ### first_bad_row -/
def badR (p w : Int) : List (D Ob) → Option Nat
  | [] => none
  | d :: l => if dRow p w d then (badR p w l).map (· + 1) else some 0
def dBadR (p w : Int) (d : D Ob) : D Ob := if dSeq d then (match badR p w (dItems d) with | none => .non | some i => .int (i : Nat)) else .int 0
def rBadR : List (D Ob) → D Ob → Prop := fun ds r => ∃ p w d, ds = [.int p, .int w, d] ∧ (∀ c, c ∈ dItems d → dLen c ≤ 30000) ∧ r = dBadR p w d
theorem badR_at {p w : Int} : ∀ {l : List (D Ob)} {i : Nat} {d : D Ob}, l[i]? = some d → (∀ j, j < i → ∀ c, l[j]? = some c → dRow p w c = true) → dRow p w d = false → badR p w l = some i
  | [], i, d, h, _, _ => by simp at h
  | c :: l, 0, d, h, _, hb => by
    have e : c = d := Option.some.inj h
    subst e
    unfold badR
    rw [hb]
    rfl
  | c :: l, i + 1, d, h, hp, hb => by
    unfold badR
    rw [hp 0 (Nat.succ_pos _) c rfl, if_pos rfl, badR_at (i := i) (by simpa using h) (fun j hj c' hc => hp (j + 1) (by omega) c' (by simpa using hc)) hb]
    rfl
theorem badR_none {p w : Int} : ∀ {l : List (D Ob)}, (∀ c, c ∈ l → dRow p w c = true) → badR p w l = none
  | [], _ => rfl
  | c :: l, h => by
    unfold badR
    rw [h c (List.mem_cons_self ..), if_pos rfl, badR_none fun c' hc => h c' (List.mem_cons_of_mem _ hc)]
    rfl
abbrev first_bad_row_S : Stmt := topS 63
abbrev first_bad_row_N : List Str := ["prime", "width", "rows", "index", "thing"]
theorem first_bad_row_sc : FnScope first_bad_row_N ["prime", "width", "rows"] (defScope first_bad_row_S) := ⟨rfl, rfl, rfl, by decide +kernel, rfl, by decide +kernel, by decide +kernel⟩
theorem ok_first_bad_row {f : Addr} {fd : FuncData} (F : Fun K "first_bad_row" "first_bad_row" first_bad_row_S f fd) (B : Bi mg) (h_is_row : DefOk P w K mg base 2 "is_row" ["prime", "width", "thing"] (SpD K (ObO K CF CT) rRow)) (h_is_list : DefOk P w K mg base 1 "is_list" ["thing"] (SpD K (ObO K CF CT) rIsList)) :
    FnOk P w K mg base CX0 3 f fd ["prime", "width", "rows"] (SpD K (ObO K CF CT) rBadR) := by
  refine F.ok first_bad_row_sc (fun vs H Q E h => ?_) (fun cdv A outer s H vs Q E hr h => ?_)
  · obtain ⟨G, ds, d, e, as, ⟨p, wd, d0, rfl, _⟩, k⟩ := h
    exact as.len
  · obtain ⟨G, ds, d, e, as, ⟨p, wd, d0, rfl, hz, rfl⟩, k⟩ := h
    obtain ⟨v1, r1, rfl, a1, n1⟩ := atL_cons.mp as
    obtain ⟨v2, r2, rfl, a2, n2⟩ := atL_cons.mp n1
    obtain ⟨v, r3, rfl, a, n3⟩ := atL_cons.mp n2
    obtain rfl := atL_nil.mp n3
    obtain rfl := at_int.mp a1
    obtain rfl := at_int.mp a2
    refine ⟨_, (pss_cons (ps_if (pt_not (pt_val (pe_callD h_is_list (hr.mono (by first | decide | exact Nat.le_refl _)) (pa_cons (pv 2) pa_nil)))) (pss_one (ps_ret pe_int)) pss_nil)
    (pss_cons (ps_for PassesOwn.never rfl (pi_or (pi_enum (by rfl) B.enumerate (pa_cons (pv 2) pa_nil)) (pi_enumT (by rfl) B.enumerate (pa_cons (pv 2) pa_nil))) (pg_tupK (k := 2) K rfl (pgs_cons (pg_name (i := 3) first_bad_row_sc.nd rfl (Or.inl rfl)) (pgs_cons (pg_name (i := 4) first_bad_row_sc.nd rfl (Or.inl rfl)) pgs_nil))) (pss_one (ps_if (pt_not (pt_val (pe_callD h_is_row (hr.mono (by first | decide | exact Nat.le_refl _)) (pa_cons (pv 0) (pa_cons (pv 1) (pa_cons (pv 4) pa_nil)))))) (pss_one (ps_ret (pv 3))) pss_nil)))
    (pss_one (ps_ret pe_non)))), ?_⟩
    have hv : EvD K (ObO K CF CT) (tVar 2) [some (.int p), some (.int wd), some v, none, none] G d0 := ed_var rfl a
    refine q_ifG (b := !dSeq d0) (et_not (et_ofD (ed_call (eda_cons hv eda_nil) ⟨d0, rfl, rfl⟩))) e (fun hb H2 l => ?_) (fun hb H2 l => ?_)
    · refine s_retD (d := dBadR p wd d0) (ed_of (v := .int 0) ev_c ?_) l.e (k.mono l)
      unfold dBadR
      rw [if_neg (by simpa using hb)]
      exact at_int.mpr rfl
    · have hs : dSeq d0 = true := by simpa using hb
      have hi : dBadR p wd d0 = match badR p wd (dItems d0) with | none => .non | some i => .int (i : Nat) := by unfold dBadR; rw [if_pos hs]
      have src : Src K (ObO K CF CT) (fun σ H R => iEnum K (tCons (tVar 2) tNil) σ H R ∨ iEnumT K (tCons (tVar 2) tNil) σ H R) [some (.int p), some (.int wd), some v, none, none] G (idxD (dItems d0)) := by
        rcases seq_of hs with q | q
        · rw [q] at hv; exact src_or1 (src_enum (eda_cons hv eda_nil))
        · rw [q] at hv; exact src_or2 (src_enumT (eda_cons hv eda_nil))
      generalize hits : dItems d0 = items at hi src hz
      refine q_forS src l.e (fun i σ' G' H' => Le G H G' H' ∧ (∃ x y, σ' = [some (.int p), some (.int wd), some v, x, y]) ∧ ∀ j, j < i → ∀ c, items[j]? = some c → dRow p wd c = true) (fun G0 H0 l0 => ⟨l.trans l0, ⟨_, _, rfl⟩, fun j hj => absurd hj (Nat.not_lt_zero _)⟩) ?_ ?_
      · intro G0 i d x σ' Gi Hi Gi' Hi' e0 hd e1 e2 p0 l' ad N hN
        obtain ⟨p1, ⟨x0, y0, rfl⟩, p3⟩ := p0
        have hil : i < items.length := by
          have := (List.getElem?_eq_some_iff.mp hd).1
          rw [idxD_len] at this
          exact this
        have hc : items[i]? = some items[i] := List.getElem?_eq_getElem hil
        rw [idxD_get hc] at hd
        obtain rfl := (Option.some.inj hd).symm
        refine tg_pair ad l'.e fun x1 x2 a1 a2 => ?_
        obtain rfl := at_int.mp a1
        have hx2 : EvD K (ObO K CF CT) (tVar 4) [some (.int p), some (.int wd), some v, some (.int (i : Nat)), some x2] Gi' items[i] := ed_var rfl a2
        refine s_ifG (b := !dRow p wd items[i]) (et_not (et_ofD (ed_call (eda_cons (ed_of (ev_var (i := 0) rfl) (at_int.mpr rfl)) (eda_cons (ed_of (ev_var (i := 1) rfl) (at_int.mpr rfl)) (eda_cons hx2 eda_nil))) ⟨p, wd, _, rfl, hz _ (List.getElem_mem hil), rfl⟩))) l'.e (fun hb H3 l3 => ?_) (fun hb H3 l3 => ?_)
        · have hb' : dRow p wd items[i] = false := by simpa using hb
          refine s_retD (d := dBadR p wd d0) (ed_of (v := .int (i : Nat)) (ev_var (i := 3) rfl) ?_) l3.e (k.mono (p1.trans (l'.trans l3)))
          rw [hi, badR_at hc p3 hb']
          exact at_int.mpr rfl
        · have hb' : dRow p wd items[i] = true := by simpa using hb
          refine hN _ Gi' H3 (Ex.refl _) l3.e ⟨p1.trans (l'.trans l3), ⟨_, _, rfl⟩, fun j hj c hcj => ?_⟩
          by_cases q : j < i
          · exact p3 j q c hcj
          · have : j = i := by omega
            subst this
            rw [hc] at hcj
            cases hcj
            exact hb'
      · intro σ' G' H' e1 e2 p0
        obtain ⟨p1, ⟨x0, y0, rfl⟩, p3⟩ := p0
        refine s_retD (d := dBadR p wd d0) (ed_of (v := .non) ev_c ?_) e2 (k.mono p1)
        rw [hi, badR_none fun c hc => by
          obtain ⟨j, hj, rfl⟩ := List.mem_iff_getElem.mp hc
          exact p3 j (by rw [idxD_len]; exact hj) _ (List.getElem?_eq_getElem hj)]
        exact at_non.mpr rfl
end
end SR
set_option maxRecDepth 100000
set_option maxHeartbeats 4000000
namespace SR
open PySem PySem.Spec PyProof.Rows L2 Evl
theorem CallR.or {X : Cx} {f : Value} {r r' : List V → Hp → VK → Prop} (h : CallR X f r) (h' : CallR X f r') : CallR X f (fun xs H Q => r xs H Q ∨ r' xs H Q) := fun pins s σ H xs us Q I rv hq => hq.elim (h pins s σ H xs us Q I rv) (h' pins s σ H xs us Q I rv)
/-- tuple(x) of a list or a tuple -/
def rTup1 (K : PySem.W.Frag) : List V → Hp → VK → Prop := fun xs H Q => (∃ p ys, xs = [V.ref p] ∧ SqL K H p ys ∧ ∀ l o, H l = none → o.dict = none → Q (.ref l) (upd H l (.frz o (.tup ys)))) ∨ ∃ a ys, xs = [V.ref a] ∧ SqT K H a ys ∧ Q (.ref a) H
theorem call_tup1 {X : Cx} (K : PySem.W.Frag) (hK : X.K = K := by rfl) : CallR X (.type "tuple") (rTup1 K) := by
  subst hK
  exact CallR.or call_tupleF call_tupleT
def toTup {ω : Type} : D ω → D ω | .lst l => .tup l | d => d
theorem ed_tup1 {ω : Type} {K : PySem.W.Frag} {O : OI ω} {G : Hp} {σ : L2.St} {ta : TE} {l : List (D ω)} {d : D ω} (hd : d = .lst l ∨ d = .tup l) (h : EvD K O ta σ G d) : EvD K O (tCB (rTup1 K) (tCons ta tNil)) σ G (.tup l) := fun H1 e Q k =>
  h H1 e _ fun v G2 H2 le a => by
    rcases hd with rfl | rfl
    · obtain ⟨p, vs, rfl, hs, as⟩ := at_lst.mp a
      exact Or.inl ⟨p, vs, rfl, sq_of (le.e _ _ hs), fun q o hq _ => k _ (upd G2 q (.frz o (.tup vs))) _ (le.trans (Le.new le.e hq)) (at_tup.mpr ⟨q, vs, rfl, Or.inl (Or.inr ⟨o, upd_same⟩), as.mono (Ex.new (none_of_ex le.e hq))⟩)⟩
    · obtain ⟨p, vs, rfl, hs, as⟩ := at_tup.mp a
      exact Or.inr ⟨p, vs, rfl, ex_t le.e hs, k _ G2 H2 le (at_tup.mpr ⟨p, vs, rfl, hs, as⟩)⟩
/-! ### rows as they are passed: lists (true) and tuples -/
abbrev Rw := Bool × List FilS
def rk (r : Rw) : D Ob := if r.1 then rwL r.2 else rwD r.2
theorem rk_seq {r : Rw} : rk r = .lst (r.2.map fo) ∨ rk r = .tup (r.2.map fo) := by
  obtain ⟨b, l⟩ := r
  cases b
  · exact Or.inr rfl
  · exact Or.inl rfl
def GoodR (p w : Int) (l : List FilS) : Prop := (l.length : Int) = w ∧ ∀ f ∈ l, f.p = p
def RowsT (p w : Int) (d : D Ob) (rs : List Rw) : Prop := (d = .lst (rs.map rk) ∨ d = .tup (rs.map rk)) ∧ ∀ r ∈ rs, GoodR p w r.2
theorem dRow_good {p w : Int} {r : Rw} (h : GoodR p w r.2) : dRow p w (rk r) = true := by
  have key : ∀ l : List FilS, GoodR p w l → (decide (((l.map fo).length : Int) = w) && (l.map fo).all (isFilP p)) = true := by
    intro l hl
    rw [List.length_map, decide_eq_true hl.1, Bool.true_and, List.all_map, List.all_eq_true]
    intro f hf
    exact decide_eq_true (hl.2 f hf)
  obtain ⟨b, l⟩ := r
  cases b
  · exact key l h
  · exact key l h
theorem items_rows {p w : Int} {d : D Ob} {rs : List Rw} (h : RowsT p w d rs) : dItems d = rs.map rk ∧ dSeq d = true := by
  rcases h.1 with rfl | rfl <;> exact ⟨rfl, rfl⟩
theorem bad_good {p w : Int} {d : D Ob} {rs : List Rw} (h : RowsT p w d rs) : dBadR p w d = .non := by
  obtain ⟨h1, h2⟩ := items_rows h
  unfold dBadR
  rw [if_pos h2, h1, badR_none fun c hc => by
    obtain ⟨r, hr, rfl⟩ := List.mem_map.mp hc
    exact dRow_good (h.2 r hr)]
theorem dLen_rk {p w : Int} {r : Rw} (h : GoodR p w r.2) (hw : w ≤ 30000) : dLen (rk r) ≤ 30000 := by
  have : dLen (rk r) = r.2.length := by
    rcases rk_seq (r := r) with q | q <;> rw [q] <;> show (r.2.map fo).length = _ <;> rw [List.length_map]
  rw [this]
  have := h.1
  omega
def spTInit (K : PySem.W.Frag) (CF CT : Addr) : Sp := fun vs H Q _ => ∃ (G H1 : Hp) (x dx : Addr) (p w : Int) (v : V) (d : D Ob) (rs : List Rw), vs = [.ref x, .int p, .int w, v] ∧ Ex G H1 ∧ H1 x = none ∧ H1 dx = none ∧ dx ≠ x ∧ H = upd (upd H1 dx (.own x)) x (.ins CT dx []) ∧
  At K (ObO K CF CT) G d v ∧ RowsT p w d rs ∧ rs.length ≤ 30000 ∧ 1 ≤ w ∧ w ≤ 30000 ∧ primes.contains p = true ∧ ∀ G2 H2, Le G H1 G2 H2 → TabAt K CF CT G2 x ⟨p, w, rs.map (·.2)⟩ → Q .non H2
theorem tflds_eq {p w : Int} {lp : Addr} : putF "lines" (.ref lp) (putF "width" (.int w) (putF "prime" (.int p) [])) = tflds p w lp := by
  have h1 : ¬ (("prime" : Str) = "width") := by decide +kernel
  have h2 : ¬ (("prime" : Str) = "lines") := by decide +kernel
  have h3 : ¬ (("width" : Str) = "lines") := by decide +kernel
  unfold tflds
  simp [putF, h1, h2, h3]
section
variable {P : Program} {w : World} {K : PySem.W.Frag} {mg : Str → Option Value} {base : Heap} {CF CT : Addr}
/-! ### is_count -/
def dCount {ω : Type} : D ω → Bool | .int i => decide (1 ≤ i) | _ => false
def rIsCount {ω : Type} : List (D ω) → D ω → Prop := fun ds r => ∃ d, ds = [d] ∧ r = .bl (dCount d)
abbrev is_count_S : Stmt := topS 20
abbrev is_count_N : List Str := ["thing"]
theorem is_count_sc : FnScope is_count_N ["thing"] (defScope is_count_S) := ⟨rfl, rfl, rfl, by decide +kernel, rfl, by decide +kernel, by decide +kernel⟩
theorem ok_is_count {ω : Type} {O : OI ω} {f : Addr} {fd : FuncData} (F : Fun K "is_count" "is_count" is_count_S f fd) (h_is_int : DefOk P w K mg base 1 "is_int" ["thing"] (SpD K O rIsInt)) : FnOk P w K mg base CX0 2 f fd ["thing"] (SpD K O rIsCount) := by
  refine F.ok is_count_sc (fun vs H Q E h => ?_) (fun cdv A outer s H vs Q E hr h => ?_)
  · obtain ⟨G, ds, d, e, as, ⟨d0, rfl, rfl⟩, k⟩ := h
    exact as.len
  · obtain ⟨G, ds, d, e, as, ⟨d0, rfl, rfl⟩, k⟩ := h
    obtain ⟨v, r, rfl, a, n⟩ := atL_cons.mp as
    obtain rfl := atL_nil.mp n
    refine ⟨_, (pss_one (ps_ret (pe_and (pe_callD h_is_int (hr.mono (by first | decide | exact Nat.le_refl _)) (pa_cons (pv 0) pa_nil)) (pe_one (pe_cmpR op_ge (pv 0) pe_int (nomark _)))))), ?_⟩
    refine s_retD (ed_of (v := .bl (dCount d0)) (ev_is (ev_andV (a := dInt d0) (b := dCount d0) (ev_bl (ed_call (eda_cons (ed_var (i := 0) rfl a) eda_nil) ⟨d0, rfl, rfl⟩)) fun hb => ?_) (by cases d0 <;> rfl)) (at_bl.mpr rfl)) e k
    cases d0 with
    | int i =>
      rw [at_int] at a
      subst a
      exact ev_is (ev_op (ev_var (i := 0) rfl) ev_c rv_I0) rfl
    | _ => cases hb
abbrev Table___init___S : Stmt := inClass (topS 101) 0
abbrev Table___init___N : List Str := ["self", "prime", "width", "rows", "index", "row"]
theorem Table___init___sc : FnScope Table___init___N ["self", "prime", "width", "rows"] (defScope Table___init___S) := ⟨rfl, rfl, rfl, by decide +kernel, rfl, by decide +kernel, by decide +kernel⟩
theorem ok_tinit {f : Addr} {fd : FuncData} {dvs : List V} {kws : List (Str × V)} (F : FunD K "__init__" "Table.__init__" (defArgs Table___init___S) (defBody Table___init___S) (defScope Table___init___S) dvs kws f fd) (B : Bi mg) (c : TabC K CF CT)
    (h_is_prime : DefOk P w K mg base 2 "is_prime" ["thing"] (SpD K (ObO K CF CT) rIsPrime)) (h_is_count : DefOk P w K mg base 2 "is_count" ["thing"] (SpD K (ObO K CF CT) rIsCount)) (h_first_bad_row : DefOk P w K mg base 3 "first_bad_row" ["prime", "width", "rows"] (SpD K (ObO K CF CT) rBadR)) :
    FnOk P w K mg base CX0 4 f fd ["self", "prime", "width", "rows"] (spTInit K CF CT) := by
  refine funD_ok F Table___init___sc (fun vs H Q E h => ?_) (fun cdv A outer s H vs Q E hr h => ?_)
  · obtain ⟨G, H1, x, dx, p, wd, v, d, rs, rfl, _⟩ := h
    rfl
  · obtain ⟨G, H1, x, dx, p, wd, v, d, rs, rfl, e, hx, hdx, hne, rfl, a, hrows, hz, hw1, hw2, hp, k⟩ := h
    refine ⟨_, (pss_cons (ps_if (pt_not (pt_val (pe_callD h_is_prime (hr.mono (by first | decide | exact Nat.le_refl _)) (pa_cons (pv 1) pa_nil)))) (pss_one ps_never) pss_nil)
    (pss_cons (ps_if (pt_not (pt_val (pe_callD h_is_count (hr.mono (by first | decide | exact Nat.le_refl _)) (pa_cons (pv 2) pa_nil)))) (pss_one ps_never) pss_nil)
    (pss_cons (ps_set (i := 4) Table___init___sc.nd rfl (Or.inl rfl) (pe_callD h_first_bad_row (hr.mono (by first | decide | exact Nat.le_refl _)) (pa_cons (pv 1) (pa_cons (pv 2) (pa_cons (pv 3) pa_nil)))))
    (pss_cons (ps_if (pt_cmpR op_notN (pv 4) pe_non (nomark _)) (pss_one ps_never) pss_nil)
    (pss_cons (ps_fld (pv 0) (pv 1) rfl)
    (pss_cons (ps_fld (pv 0) (pv 2) rfl)
    (pss_one (ps_fld (pv 0) (pe_callTy call_tupleF (by rfl) B.tuple (by decide +kernel) (pa_cons (pe_lc (own := [("row", 5)]) rfl Table___init___sc.nd (pi_or (pi_list (pv 3)) (pi_tup (pv 3))) (blkOk_by (N := Table___init___N) (sc := defScope Table___init___S) (by decide +kernel)) (fun _ _ _ _ _ => (pg_name (i := 5) Table___init___sc.nd rfl (Or.inl rfl))) (fun _ _ _ _ _ => pts_nil) (fun _ _ _ _ _ => by exact (pe_callTy (call_tup1 K) (by rfl) B.tuple (by decide +kernel) (pa_cons (pv 5) pa_nil)))) pa_nil)) rfl)))))))), ?_⟩
    have l0 : Le G H1 G (upd H1 dx (.own x)) := Le.newM e hdx
    have l1 : Le G H1 G (upd (upd H1 dx (.own x)) x (.ins CT dx [])) := l0.trans (Le.newM l0.e (by rw [upd_ne (Ne.symm hne)]; exact hx))
    have gx : G x = none := none_of_ex e hx
    have hv1 : ∀ y z, EvD K (ObO K CF CT) (tVar 1) [some (.ref x), some (.int p), some (.int wd), some v, y, z] G (.int p) := fun y z => ed_var rfl (at_int.mpr rfl)
    have hv2 : ∀ y z, EvD K (ObO K CF CT) (tVar 2) [some (.ref x), some (.int p), some (.int wd), some v, y, z] G (.int wd) := fun y z => ed_var rfl (at_int.mpr rfl)
    have hv3 : ∀ y z, EvD K (ObO K CF CT) (tVar 3) [some (.ref x), some (.int p), some (.int wd), some v, y, z] G d := fun y z => ed_var rfl a
    refine q_skip (et_is (et_not (et_ofD (ed_call (eda_cons (hv1 _ _) eda_nil) ⟨_, rfl, rfl⟩))) (by show (!primes.contains p) = false; rw [hp]; rfl)) l1.e fun H2 l2 => ?_
    refine q_skip (et_is (et_not (et_ofD (ed_call (eda_cons (hv2 _ _) eda_nil) ⟨_, rfl, rfl⟩))) (by show (!decide (1 ≤ wd)) = false; rw [decide_eq_true hw1]; rfl)) l2.e fun H2' l2' => ?_
    refine q_asgV (v := .non) (ev_non (ed_call (eda_cons (hv1 _ _) (eda_cons (hv2 _ _) (eda_cons (hv3 _ _) eda_nil))) ⟨p, wd, d, rfl, fun cc hcc => ?_, (bad_good hrows).symm⟩)) l2'.e fun H3 l3 => ?_
    · rw [(items_rows hrows).1] at hcc
      obtain ⟨r, hr', rfl⟩ := List.mem_map.mp hcc
      exact dLen_rk (hrows.2 r hr') hw2
    refine q_skip (et_is (et_test (b := false) (ev_op (z := .bl (!decide (V.non = V.non))) (ev_var (i := 4) rfl) ev_c fun H4 e4 Q q => ⟨rfl, q H4 (Ex.refl H4)⟩)) rfl) l3.e fun H4 l4 => ?_
    have l14 := (((l1.trans l2).trans l2').trans l3).trans l4
    have hx4 : H4 x = some (.ins CT dx []) := l4.h x _ (l3.h x _ (l2'.h x _ (l2.h x _ upd_same)))
    refine ⟨_, rfl, _, rfl, x, CT, dx, [], rfl, hx4, c.t, c.n1, (by decide), ?_⟩
    refine ⟨_, rfl, _, rfl, x, CT, dx, _, rfl, upd_same, c.t, c.n2, (Nat.lt_of_le_of_lt putF_len (by decide)), ?_⟩
    have l5 := (l14.mut (o := .ins CT dx (putF "prime" (.int p) [])) hx gx).mut (o := .ins CT dx (putF "width" (.int wd) (putF "prime" (.int p) []))) hx gx
    have hlc := ed_lc (K := K) (O := ObO K CF CT) (G := G) (te := tCB (rTup1 K) (tCons (tVar 5) tNil)) (tt := tYes) (vs := [5]) (g := gName 5) (σ := [some (.ref x), some (.int p), some (.int wd), some v, some .non, none]) (fun _ => true) toTup (src_seq hrows.1 (hv3 _ _)) (by rw [List.length_map]; omega) (fun i d x Gi Hi hd eg eh ad Q' hQ => ?_)
    · have e8 : (((rs.map rk).filter fun _ => true).map toTup) = (rs.map (·.2)).map rwD := by
        rw [List.filter_eq_self.mpr (fun _ _ => rfl), List.map_map, List.map_map]
        refine List.map_congr_left fun r _ => ?_
        show toTup (rk r) = rwD r.2
        rcases rk_seq (r := r) with q | q <;> rw [q] <;> rfl
      rw [e8] at hlc
      show sFld K (tVar 0) (tCB (fun xs H Q => ∃ p ys, xs = [V.ref p] ∧ SqL K H p ys ∧ ∀ l o, H l = none → o.dict = none → Q (.ref l) (upd H l (.frz o (.tup ys)))) (tCons (tLc (fun σ H R => iList K (tVar 3) σ H R ∨ iTup K (tVar 3) σ H R) (gName 5) tYes (tCB (rTup1 K) (tCons (tVar 5) tNil)) [5]) tNil)) "lines" _ [some (.ref x), some (.int p), some (.int wd), some v, some .non, none] _
      unfold sFld
      dsimp only [tCB, tCons]
      refine hlc _ l5.e _ fun vl G6 H6 l6 al => ?_
      obtain ⟨la, vs, rfl, hs, as⟩ := at_lst.mp al
      refine ⟨la, _, rfl, sq_of (l6.e _ _ hs), fun tp o htp ho => ?_⟩
      have l7 := Le.new l6.e (o := .frz o (.tup vs)) htp
      have hx6 : H6 x = some (.ins CT dx (putF "width" (.int wd) (putF "prime" (.int p) []))) := l6.h x _ upd_same
      have gx6 : G6 x = none := l6.gnone gx (by rw [upd_same]; exact fun z => nomatch z)
      have hx7 : (upd H6 tp (.frz o (.tup vs))) x = some (.ins CT dx (putF "width" (.int wd) (putF "prime" (.int p) []))) := l7.h x _ hx6
      have gx7 : (upd G6 tp (.frz o (.tup vs))) x = none := l7.gnone gx6 (by rw [hx6]; exact fun z => nomatch z)
      refine ⟨_, rfl, x, CT, dx, _, rfl, hx7, c.t, c.n3, (Nat.lt_of_le_of_lt putF_len (Nat.lt_of_le_of_lt (Nat.succ_le_succ putF_len) (by show 1 + 1 < 1000; decide))), ?_⟩
      rw [tflds_eq]
      have l8 := ((l5.trans l6).trans l7).mut (o := .ins CT dx (tflds p wd tp)) hx gx7
      have l9 := Le.fix e l8 hx upd_same
      refine k _ _ l9 ⟨dx, tp, upd_same, ?_⟩
      have hne' : tp ≠ x := by intro z; subst z; rw [hx6] at htp; cases htp
      refine (at_dmap (f := Ob.fil) (O' := ObO K CF CT) lifts_fil).mp ?_
      rw [dmap_lines]
      exact at_tup.mpr ⟨tp, vs, rfl, Or.inl (Or.inr ⟨o, by rw [upd_ne hne', upd_same]⟩), (as.mono l7.g).mono (Ex.new gx7)⟩
    · rw [List.getElem?_map] at hd
      obtain ⟨r, hr', rfl⟩ := Option.map_eq_some_iff.mp hd
      refine hQ _ Hi (Ex.refl _) rfl et_yes fun _ => ?_
      have : toTup (rk r) = .tup (r.2.map fo) := by rcases rk_seq (r := r) with q | q <;> rw [q] <;> rfl
      rw [this]
      exact ed_tup1 rk_seq (ed_var rfl ad)
end
end SR
set_option maxRecDepth 100000
set_option maxHeartbeats 4000000
namespace SR
open PySem PySem.Spec PyProof.Rows L2 Evl
section
variable {ω : Type} {K : PySem.W.Frag} {O : OI ω} {G : Hp} {ta tb : TE} {σ : L2.St}
theorem hunN {A B : Hp} {y : Addr} (h1 : A y = none) (h2 : B y = none) : hun A B y = none := by
  unfold hun
  rw [h1]
  exact h2
/-- two steps from one known part -/
theorem Le.join {H1 G2 H2 G3 H3 : Hp} (l : Le G H1 G2 H2) (l3 : Le G H2 G3 H3) : Le G H1 (hun G3 G2) H3 := by
  have e2 : Ex G2 H3 := l.e.trans l3.h
  exact ⟨l.h.trans l3.h, l.g.trans (hun_r l3.e e2), hun_ex l3.e e2, fun y hg hh => hunN (l3.f y hg fun z => hh (fresh_back l.h z)) (l.f y hg hh), hun_t l3.t l.t⟩
theorem ed_plusT {ds es : List (D ω)} (h1 : EvD K O ta σ G (.tup ds)) (h2 : EvD K O tb σ G (.tup es)) (hz : ds.length + es.length ≤ 100000) : EvD K O (tOp (rCatA K) ta tb) σ G (.tup (ds ++ es)) := fun H1 e Q k =>
  h1 H1 e _ fun v G2 H2 l a => h2 H2 (e.trans l.h) _ fun u G3 H3 l3 b => by
    obtain ⟨p, vs, rfl, hs, as⟩ := at_tup.mp a
    obtain ⟨q, us, rfl, hs', as'⟩ := at_tup.mp b
    have e2 : Ex G2 H3 := l.e.trans l3.h
    have e3 : Ex G2 (hun G3 G2) := hun_r l3.e e2
    have l4 := l.join l3
    have ac := (as.mono e3).app (as'.mono (hun_l (B := G2)))
    refine ⟨p, q, vs, us, rfl, rfl, ex_t e2 hs, ex_t l3.e hs', sz_of (by rw [as.len, as'.len]; exact hz), fun z => ?_, fun _ z => ?_, fun _ _ r hr => ?_⟩
    · subst z
      exact k (.ref q) _ _ l4 (at_tup.mpr ⟨q, _, rfl, ex_t hun_l hs', ac⟩)
    · subst z
      rw [List.append_nil] at ac
      exact k (.ref p) _ _ l4 (at_tup.mpr ⟨p, _, rfl, ex_t e3 hs, ac⟩)
    · exact k (.ref r) (upd (hun G3 G2) r (.tup (vs ++ us))) _ (l4.trans (Le.new l4.e hr)) (at_tup.mpr ⟨r, _, rfl, st_of upd_same, ac.mono (Ex.new (none_of_ex l4.e hr))⟩)
end
end SR
set_option maxRecDepth 100000
set_option maxHeartbeats 4000000
namespace SR
open PySem PySem.Spec PyProof.Rows L2 Evl
instance decFilS : DecidableEq FilS := fun a b => if h : a.p = b.p ∧ a.ps = b.ps then isTrue (by cases a; cases b; obtain ⟨h1, h2⟩ := h; cases h1; cases h2; rfl) else isFalse fun e => h (by cases e; exact ⟨rfl, rfl⟩)
instance decTabS : DecidableEq TabS := fun a b => if h : a.p = b.p ∧ a.w = b.w ∧ a.ls = b.ls then isTrue (by cases a; cases b; obtain ⟨h1, h2, h3⟩ := h; cases h1; cases h2; cases h3; rfl) else isFalse fun e => h (by cases e; exact ⟨rfl, rfl, rfl⟩)
theorem dmapL_eq {α β : Type} {f : α → β} : ∀ {l : List (D α)}, dmapL f l = l.map (dmap f)
  | [] => rfl
  | d :: l => by show dmap f d :: dmapL f l = _; rw [dmapL_eq]; rfl
theorem call_lstK {X : Cx} (K : PySem.W.Frag) (hK : X.K = K := by rfl) : CallR X (.type "list") (rListOf K) := by
  subst hK
  exact call_list_of
/-! ### Table(..) -/
def GoodT (t : TabS) : Prop := primes.contains t.p = true ∧ 1 ≤ t.w ∧ t.w ≤ 30000 ∧ ∀ l ∈ t.ls, GoodR t.p t.w l
section
variable {P : Program} {w : World} {K : PySem.W.Frag} {mg : Str → Option Value} {base : Heap} {CF CT : Addr} {G H : Hp} {te ta tb : TE} {σ : L2.St} {t : TA} {E : XK}
theorem ed_tmake {p wd : Int} {d : D Ob} {rs : List Rw} (h : EvDA K (ObO K CF CT) t σ G [.int p, .int wd, d]) (hp : primes.contains p = true) (h1 : 1 ≤ wd) (h2 : wd ≤ 30000) (hr : RowsT p wd d rs) (hz : rs.length ≤ 30000) : EvD K (ObO K CF CT) (tMake CT (spTInit K CF CT) [] E t) σ G (.obj (.tab ⟨p, wd, rs.map (·.2)⟩)) := fun H1 e Q k =>
  h H1 e _ fun vs G2 H2 l as => by
    obtain ⟨v1, r1, rfl, a1, n1⟩ := atL_cons.mp as
    obtain ⟨v2, r2, rfl, a2, n2⟩ := atL_cons.mp n1
    obtain ⟨v3, r3, rfl, a3, n3⟩ := atL_cons.mp n2
    obtain rfl := atL_nil.mp n3
    obtain rfl := at_int.mp a1
    obtain rfl := at_int.mp a2
    intro x dx hx hdx hne
    exact ⟨G2, H2, x, dx, p, wd, v3, d, rs, rfl, l.e, hx, hdx, hne, rfl, a3, hr, hz, h1, h2, hp, fun G3 H3 l3 fa => ⟨rfl, k (.ref x) G3 H3 (l.trans l3) (at_obj.mpr ⟨x, rfl, fa⟩)⟩⟩
/-- Table(p, w): the default -/
theorem ed_tmake2 {p wd : Int} {a0 : Addr} (h : EvDA K (ObO K CF CT) t σ G [.int p, .int wd]) (hp : primes.contains p = true) (h1 : 1 ≤ wd) (h2 : wd ≤ 30000) (h0 : ∀ H, SqT K H a0 []) : EvD K (ObO K CF CT) (tMake CT (spTInit K CF CT) [.ref a0] E t) σ G (.obj (.tab ⟨p, wd, []⟩)) := fun H1 e Q k =>
  h H1 e _ fun vs G2 H2 l as => by
    obtain ⟨v1, r1, rfl, a1, n1⟩ := atL_cons.mp as
    obtain ⟨v2, r2, rfl, a2, n2⟩ := atL_cons.mp n1
    obtain rfl := atL_nil.mp n2
    obtain rfl := at_int.mp a1
    obtain rfl := at_int.mp a2
    intro x dx hx hdx hne
    exact ⟨G2, H2, x, dx, p, wd, .ref a0, .tup [], [], rfl, l.e, hx, hdx, hne, rfl, at_tup.mpr ⟨a0, [], rfl, h0 _, atL_nil.mpr rfl⟩, ⟨Or.inr rfl, fun r z => nomatch z⟩, Nat.zero_le _, h1, h2, hp, fun G3 H3 l3 fa => ⟨rfl, k (.ref x) G3 H3 (l.trans l3) (at_obj.mpr ⟨x, rfl, fa⟩)⟩⟩
theorem rows_lines {p wd : Int} {ls : List (List FilS)} (h : ∀ l ∈ ls, GoodR p wd l) : RowsT p wd (linesD ls) (ls.map fun l => (false, l)) :=
  ⟨Or.inr (by show D.tup (ls.map rwD) = _; rw [List.map_map]; rfl), fun r hr => by
    obtain ⟨l, hl, rfl⟩ := List.mem_map.mp hr
    exact h l hl⟩
theorem rows_rwL {p wd : Int} {ls : List (List FilS)} (h : ∀ l ∈ ls, GoodR p wd l) : RowsT p wd (.lst (ls.map rwL)) (ls.map fun l => (true, l)) :=
  ⟨Or.inl (by rw [List.map_map]; rfl), fun r hr => by
    obtain ⟨l, hl, rfl⟩ := List.mem_map.mp hr
    exact h l hl⟩
section
variable {ω : Type} {O : OI ω}
theorem x_lcN {H1 : Hp} {wi : TI} {g : TG} {tt : TT} {vs : List Nat} {ds : List (D ω)} (f : D ω → Bool) (m : D ω → D ω) (hs : Src K O wi σ G ds) (hz : ds.length ≤ 40000)
    (body : ∀ (i : Nat) (d : D ω) (x : V) (Gi Hi : Hp), ds[i]? = some d → Ex G Gi → Ex Gi Hi → Ex H1 Hi → At K O Gi d x → ∀ Q : L2.St → Hp → Prop,
      (∀ σ2 H2, Ex Hi H2 → wipe σ2 vs = wipe σ vs → EvT tt σ2 Gi (f d) → (f d = true → ∀ H3, Ex Hi H3 → ∀ Q3 : VK, RetG K O (m d) Gi H3 Q3 → te σ2 H3 Q3) → Q σ2 H2) → g x (wipe σ vs) Hi Q) :
    Ex G H1 → ∀ Q : VK, (∀ (Dl : Addr) (G2 H2 : Hp), H1 Dl = none → Le G H1 G2 H2 → At K O G2 (.lst ((ds.filter f).map m)) (.ref Dl) → Q (.ref Dl) H2) → tLc wi g tt te vs σ H1 Q := fun e Q k => by
  refine hs H1 e _ fun J Gd Y G0 H0 l0 w hG yl => ?_
  intro Dl hD
  refine lc_it w (fun i H => ∃ Gi us, Le G0 H0 Gi H ∧ H Dl = some (.lst us) ∧ Gi Dl = none ∧ AtL K O Gi (((ds.take i).filter f).map m) us)
    ⟨G0, [], Le.newM l0.e hD, upd_same, none_of_ex l0.e hD, by simp; exact atL_nil.mpr rfl⟩ (fun i H _ p => ?_) (fun i x Hi Hi' hi p y => ?_) fun H p => ?_
  · obtain ⟨Gi, us, l, _⟩ := p
    exact hG H (l.g.trans l.e)
  · obtain ⟨Gi, us, l, hu, gn, as⟩ := p
    obtain ⟨d, Gi', hd, l', ad⟩ := yl i Gi Hi x Hi' l.g l.e hi y
    have tk := take_snoc hd
    have gn' : Gi' Dl = none := l'.gnone gn (by rw [hu]; exact fun z => nomatch z)
    have hu' : Hi' Dl = some (.lst us) := l'.h Dl _ hu
    have lt : Le G0 H0 Gi' Hi' := l.trans l'
    refine body i d x Gi' Hi' hd (l0.g.trans lt.g) l'.e (l0.h.trans lt.h) ad _ fun σ2 H2 e2 hw ht he => ⟨hw, ?_⟩
    refine ht H2 (l'.e.trans e2) _ fun H3 e3 => ?_
    have e23 := e2.trans e3
    have lt3 : Le G0 H0 Gi' H3 := lt.trans (Le.heap l'.e e23)
    cases hf : f d with
    | false =>
      rw [if_neg Bool.false_ne_true]
      refine ⟨Gi', us, lt3, e23 Dl _ hu', gn', ?_⟩
      rw [tk, List.filter_append, List.filter_cons, if_neg (by rw [hf]; decide), List.filter_nil, List.append_nil]
      exact as.mono l'.g
    | true =>
      rw [if_pos rfl]
      refine he hf H3 e23 _ fun u G4 H4 l4 a4 => ?_
      have hu4 : H4 Dl = some (.lst us) := l4.h Dl _ (e23 Dl _ hu')
      have gn4 : G4 Dl = none := l4.gnone gn' (by rw [e23 Dl _ hu']; exact fun z => nomatch z)
      have ul : us.length ≤ i := by
        have := as.len
        have h2 := List.length_filter_le f (ds.take i)
        simp at this h2
        omega
      refine ⟨us, hu4, sz_lt (by omega), G4, us ++ [u], (lt3.trans l4).mut hD gn4, upd_same, gn4, ?_⟩
      rw [tk, List.filter_append, List.filter_cons, if_pos hf, List.filter_nil, List.map_append]
      exact (as.mono (l'.g.trans l4.g)).app (AtL.one a4)
  · obtain ⟨Gi, us, l, hu, gn, as⟩ := p
    rw [List.take_length] at as
    exact k Dl (upd Gi Dl (.lst us)) H (fresh_back l0.h hD) (l0.trans (Le.fix l0.e l hD hu)) (at_lst.mpr ⟨Dl, us, rfl, upd_same, as.mono (Ex.new gn)⟩)
end
/-! ### rows: new lists -/
def LkR (K : PySem.W.Frag) (CF CT : Addr) (G0 : Hp) : OI (List FilS) where
  at_ := fun H a l => ∃ us, H a = some (.lst us) ∧ AtL K (ObO K CF CT) H (l.map fo) us ∧ G0 a = none
  mono := fun e ⟨us, h1, h2, h3⟩ => ⟨us, e _ _ h1, h2.mono e, h3⟩
theorem lkr_at {G0 : Hp} : ∀ {ls : List (List FilS)} {vs : List V}, AtL K (LkR K CF CT G0) G (ls.map D.obj) vs → AtL K (ObO K CF CT) G (ls.map rwL) vs
  | [], vs, h => atL_nil.mpr (atL_nil.mp h)
  | l :: r, vs, h => by
    obtain ⟨v, u, rfl, a, n⟩ := atL_cons.mp h
    obtain ⟨x, rfl, us, h1, h2, _⟩ := at_obj.mp a
    exact atL_cons.mpr ⟨_, _, rfl, at_lst.mpr ⟨x, us, rfl, h1, h2⟩, lkr_at n⟩
def spRowsN (K : PySem.W.Frag) (CF CT : Addr) : Sp := fun vs H Q _ => ∃ G t v, vs = [v] ∧ Ex G H ∧ t.ls.length ≤ 30000 ∧ At K (ObO K CF CT) G (.obj (.tab t)) v ∧ ∀ l G2 H2, H l = none → Le G H G2 H2 → At K (LkR K CF CT H) G2 (.lst (t.ls.map .obj)) (.ref l) → Q (.ref l) H2
def SumO {α β : Type} (O1 : OI α) (O2 : OI β) : OI (α ⊕ β) where
  at_ := fun H a w => match w with | .inl x => O1.at_ H a x | .inr y => O2.at_ H a y
  mono := fun {H H' a w} e h => match w, h with
    | .inl x, h => O1.mono e h
    | .inr y, h => O2.mono e h
theorem lifts_inl {α β : Type} {O1 : OI α} {O2 : OI β} : Lifts O1 (SumO O1 O2) Sum.inl := fun _ _ _ => Iff.rfl
theorem lifts_inr {α β : Type} {O1 : OI α} {O2 : OI β} : Lifts O2 (SumO O1 O2) Sum.inr := fun _ _ _ => Iff.rfl
def unFo : D (Ob ⊕ List FilS) → Option FilS | .obj (.inl (.fil f)) => some f | _ => none
def mkRow : D (Ob ⊕ List FilS) → D (Ob ⊕ List FilS) | .tup l => .obj (.inr (l.filterMap unFo)) | d => d
theorem mkRow_row {l : List FilS} : mkRow (dmap Sum.inl (rwD l)) = .obj (.inr l) := by
  show D.obj (Sum.inr ((dmapL Sum.inl (l.map fo)).filterMap unFo)) = _
  rw [dmapL_map]
  congr 2
  induction l with
  | nil => rfl
  | cons f r ih => rw [List.map_cons, List.filterMap_cons]; show f :: _ = _; rw [ih]
abbrev Table_rows_S : Stmt := inClass (topS 101) 1
abbrev Table_rows_N : List Str := ["self", "line"]
theorem Table_rows_sc : FnScope Table_rows_N ["self"] (defScope Table_rows_S) := ⟨rfl, rfl, rfl, by decide +kernel, rfl, by decide +kernel, by decide +kernel⟩
theorem ok_trows {f : Addr} {fd : FuncData} (F : Fun K "rows" "Table.rows" Table_rows_S f fd) (B : Bi mg) (c : TabC K CF CT) : FnOk P w K mg base CX0 1 f fd ["self"] (spRowsN K CF CT) := by
  refine F.ok Table_rows_sc (fun vs H Q E h => ?_) (fun cdv A outer s H vs Q E hr h => ?_)
  · obtain ⟨G, t, v, rfl, _⟩ := h
    rfl
  · obtain ⟨G, t, v, rfl, e, hz, a, k⟩ := h
    refine ⟨_, (pss_one (ps_ret (pe_lc (own := [("line", 1)]) rfl Table_rows_sc.nd (pi_tup (pe_fldK K (pv 0))) (blkOk_by (N := Table_rows_N) (sc := defScope Table_rows_S) (by decide +kernel)) (fun _ _ _ _ _ => (pg_name (i := 1) Table_rows_sc.nd rfl (Or.inl rfl))) (fun _ _ _ _ _ => pts_nil) (fun _ _ _ _ _ => by exact (pe_callTy (call_lstK K) (by rfl) B.list (by decide +kernel) (pa_cons (pv 1) pa_nil)))))), ?_⟩
    have hs : Src K (ObO K CF CT) (iTup K (tFld K (tVar 0) "lines")) [some v, none] G (t.ls.map rwD) := src_tup (ed_lines c (ed_var rfl a))
    have hs2 := src_lift (O' := SumO (ObO K CF CT) (LkR K CF CT H)) (f := Sum.inl) lifts_inl hs
    have e9 : (((dmapL Sum.inl (t.ls.map rwD)).filter fun _ => true).map mkRow) = (t.ls.map D.obj).map (dmap Sum.inr) := by
      rw [List.filter_eq_self.mpr (fun _ _ => rfl), dmapL_map, List.map_map, List.map_map]
      exact List.map_congr_left fun l _ => mkRow_row
    refine x_lcN (H1 := H) (K := K) (O := SumO (ObO K CF CT) (LkR K CF CT H)) (G := G) (wi := iTup K (tFld K (tVar 0) "lines")) (g := gName 1) (tt := tYes) (te := tCB (rListOf K) (tCons (tVar 1) tNil)) (vs := [1]) (fun _ => true) mkRow hs2 (by rw [dmapL_len, List.length_map]; omega) (fun j d x Gj Hj hd eg eh eH ad Q' hQ => ?_) e _ fun Dl G2 H2 hD l al => ?_
    · rw [dmapL_map, List.getElem?_map] at hd
      obtain ⟨r, hr, rfl⟩ := Option.map_eq_some_iff.mp hd
      rw [mkRow_row] at hQ
      refine hQ _ Hj (Ex.refl _) rfl et_yes fun _ H6 e6' Q6 k6 => ?_
      have e6 := eh.trans e6'
      have hE6 : ∀ {y : Addr}, H6 y = none → H y = none := fun hy => fresh_back (eH.trans e6') hy
      obtain ⟨y, us, rfl, hus, aus⟩ := at_tup.mp ((at_dmap lifts_inl).mp ad)
      refine ⟨.ref y, rfl, y, us, rfl, Or.inr (ex_t e6 hus), fun q hq => ?_⟩
      exact k6 (.ref q) (upd Gj q (.lst us)) _ (Le.new e6 hq) (at_obj.mpr ⟨q, rfl, us, upd_same, aus.mono (Ex.new (none_of_ex e6 hq)), hE6 hq⟩)
    · rw [e9, ← dmapL_eq] at al
      exact k Dl G2 H2 hD l ((at_dmap (d := .lst (t.ls.map .obj)) lifts_inr).mp al)
/-! ### len, iteration -/
def rTLen : List (D Ob) → D Ob → Prop := fun ds r => ∃ t, ds = [.obj (.tab t)] ∧ r = .int (t.ls.length : Nat)
abbrev Table___len___S : Stmt := inClass (topS 101) 8
abbrev Table___len___N : List Str := ["self"]
theorem Table___len___sc : FnScope Table___len___N ["self"] (defScope Table___len___S) := ⟨rfl, rfl, rfl, by decide +kernel, rfl, by decide +kernel, by decide +kernel⟩
theorem ok_tlen {f : Addr} {fd : FuncData} (F : Fun K "__len__" "Table.__len__" Table___len___S f fd) (B : Bi mg) (c : TabC K CF CT) : FnOk P w K mg base CX0 1 f fd ["self"] (SpD K (ObO K CF CT) rTLen) := by
  refine F.ok Table___len___sc (fun vs H Q E h => ?_) (fun cdv A outer s H vs Q E hr h => ?_)
  · obtain ⟨G, ds, d, e, as, ⟨t, rfl, rfl⟩, k⟩ := h
    exact as.len
  · obtain ⟨G, ds, d, e, as, ⟨t, rfl, rfl⟩, k⟩ := h
    obtain ⟨v, r, rfl, a, n⟩ := atL_cons.mp as
    obtain rfl := atL_nil.mp n
    refine ⟨_, (pss_one (ps_ret (pe_callB (call_lenK K) (by rfl) B.len (by decide +kernel) (pa_cons (pe_fldK K (pv 0)) pa_nil)))), ?_⟩
    refine s_retD (ed_of (ev_is (len_d (d := linesD t.ls) (ed_lines c (ed_var rfl a)) rfl) ?_) (at_int.mpr rfl)) e k
    show V.int ((t.ls.map rwD).length : Nat) = _
    rw [List.length_map]
def rTIter : D Ob → List (D Ob) → Prop := fun d ds => ∃ t, d = .obj (.tab t) ∧ ds = t.ls.map rwD
abbrev Table___iter___S : Stmt := inClass (topS 101) 9
abbrev Table___iter___N : List Str := ["self"]
theorem Table___iter___sc : FnScope Table___iter___N ["self"] (defScope Table___iter___S) := ⟨rfl, rfl, rfl, by decide +kernel, rfl, by decide +kernel, by decide +kernel⟩
theorem ok_titer {f : Addr} {fd : FuncData} (F : Fun K "__iter__" "Table.__iter__" Table___iter___S f fd) (z_iter : mg "iter" = none) (c : TabC K CF CT) : ∀ base, FnOk P w K mg base CX0 1 f fd ["self"] (spIt K (ObO K CF CT) rTIter base.objs.size) := fun base => by
  refine F.ok Table___iter___sc (fun vs H Q E h => ?_) (fun cdv A outer s H vs Q E hr h => ?_)
  · obtain ⟨G, d, ds, v, rfl, _⟩ := h
    rfl
  · obtain ⟨G, d, ds, v, rfl, e, a, ⟨t, rfl, rfl⟩, k⟩ := h
    refine ⟨_, (pss_one (ps_ret (pe_callB (call_iterT K) (by rfl) z_iter (by decide +kernel) (pa_cons (pe_fldK K (pv 0)) pa_nil)))), ?_⟩
    refine ed_lines c (ed_var (i := 0) (σ := [some v]) rfl a) H e _ fun u G2 H2 l al => ?_
    obtain ⟨q, us, rfl, hs, as⟩ := at_tup.mp al
    exact ⟨q, us, rfl, ex_t l.e hs, fun it hn hle => k G2 H2 q it l al hn hle⟩
/-! ### == -/
def obQ : Ob → Ob → Bool → Prop := fun o1 o2 b => ∃ w u, o1 = .fil w ∧ o2 = .fil u ∧ b = decide (w = u)
theorem fil_one {H : Hp} {a : Addr} {w u : FilS} (h : FilAt K CF H a w) (h' : FilAt K CF H a u) : w = u := by
  obtain ⟨dx, tp, o, ts, kd, h1, _, _, _, h5⟩ := h
  obtain ⟨dx', tp', o', ts', kd', g1, _, _, _, g5⟩ := h'
  rw [h1] at g1
  have e1 := Option.some.inj g1
  injection e1 with _ _ e2
  have p1 : (flds w.p tp kd).lookup ("prime" : Str) = (flds u.p tp' kd').lookup ("prime" : Str) := by rw [e2]
  have p2 : (flds w.p tp kd).lookup ("coefficients" : Str) = (flds u.p tp' kd').lookup ("coefficients" : Str) := by rw [e2]
  rw [lk1, lk1] at p1
  rw [lk3, lk3] at p2
  have hp := V.int.inj (Option.some.inj p1)
  have hk := V.ref.inj (Option.some.inj p2)
  subst hk
  rw [h5] at g5
  have hps := kvI_inj (HO.dK.inj (Option.some.inj g5))
  obtain ⟨p, ps⟩ := w
  obtain ⟨p', ps'⟩ := u
  obtain rfl : p = p' := hp
  obtain rfl : ps = ps' := hps
  rfl
theorem same_ob : OSame (ObO K CF CT) obQ := fun H a o1 o2 b h1 h2 hq => by
  obtain ⟨w, u, rfl, rfl, rfl⟩ := hq
  exact decide_eq_true (fil_one h1 h2)
theorem dql_dec {ω : Type} {γ : Type} [DecidableEq γ] {g : γ → D ω} {P : D ω → D ω → Bool → Prop} (h : ∀ x y, P (g x) (g y) (decide (x = y))) : ∀ l m : List γ, ∃ b, DQL P (l.map g) (m.map g) b ∧ (b && (l.length == m.length)) = decide (l = m)
  | [], [] => ⟨true, rfl, rfl⟩
  | [], y :: m => ⟨true, rfl, rfl⟩
  | x :: l, [] => ⟨true, rfl, rfl⟩
  | x :: l, y :: m => by
    obtain ⟨b, h1, h2⟩ := dql_dec h l m
    refine ⟨decide (x = y) && b, ⟨_, _, h x y, h1, rfl⟩, ?_⟩
    have e : ((x :: l).length == (y :: m).length) = (l.length == m.length) := by
      show (l.length + 1 == m.length + 1) = _
      by_cases q : l.length = m.length <;> simp [q]
    rw [e, Bool.and_assoc, h2]
    by_cases q : x = y <;> by_cases q2 : l = m <;> simp [q, q2]
theorem dq_row {n : Nat} (l m : List FilS) : DQ obQ (n + 1) (rwD l) (rwD m) (decide (l = m)) := by
  obtain ⟨b, h1, h2⟩ := dql_dec (g := fo) (P := DQ obQ n) (fun x y => by cases n <;> exact ⟨x, y, rfl, rfl, rfl⟩) l m
  exact ⟨b, h1, by rw [List.length_map, List.length_map]; exact h2.symm⟩
theorem dq_lines (l m : List (List FilS)) : DQ obQ 2 (linesD l) (linesD m) (decide (l = m)) := by
  obtain ⟨b, h1, h2⟩ := dql_dec (g := rwD) (P := DQ obQ 1) (fun x y => dq_row x y) l m
  exact ⟨b, h1, by rw [List.length_map, List.length_map]; exact h2.symm⟩
def eqT (t : TabS) : D Ob → Bool | .obj (.tab u) => decide (t = u) | _ => false
def rEqT : List (D Ob) → D Ob → Prop := fun ds r => ∃ t d, ds = [.obj (.tab t), d] ∧ r = .bl (eqT t d)
abbrev Table___eq___S : Stmt := inClass (topS 101) 11
abbrev Table___eq___N : List Str := ["self", "other"]
theorem Table___eq___sc : FnScope Table___eq___N ["self", "other"] (defScope Table___eq___S) := ⟨rfl, rfl, rfl, by decide +kernel, rfl, by decide +kernel, by decide +kernel⟩
theorem ok_teq {f : Addr} {fd : FuncData} (F : Fun K "__eq__" "Table.__eq__" Table___eq___S f fd) (B : Bi mg) (c : TabC K CF CT) {C_Table : Addr} (hCT : C_Table = CT) (g_Table : mg "Table" = some (.ref C_Table)) (h_f_eq : DunOk P w K mg base CF 1 "__eq__" ["self", "other"] (SpD K (ObO K CF CT) (liftR Ob.fil rEqF))) :
    FnOk P w K mg base CX0 4 f fd ["self", "other"] (SpD K (ObO K CF CT) rEqT) := by
  subst hCT
  refine F.ok Table___eq___sc (fun vs H Q E h => ?_) (fun cdv A outer s H vs Q E hr h => ?_)
  · obtain ⟨G, ds, d, e, as, ⟨t, d1, rfl, rfl⟩, k⟩ := h
    exact as.len
  · obtain ⟨G, ds, d, e, as, ⟨t, d1, rfl, rfl⟩, k⟩ := h
    obtain ⟨v, r, rfl, a, n⟩ := atL_cons.mp as
    obtain ⟨v2, r2, rfl, a2, n2⟩ := atL_cons.mp n
    obtain rfl := atL_nil.mp n2
    have hoq : ∀ {o1 o2 : Ob} {b : Bool}, obQ o1 o2 b → RcD (cxOf CX0 P w K mg base Table___eq___N "Table.__eq__" (defScope Table___eq___S) f cdv A outer s H E).nox (ObO K CF C_Table) 1 (.obj o1) (.obj o2) b := fun {o1 o2 b} hq => by
      obtain ⟨w1, u1, rfl, rfl, rfl⟩ := hq
      refine rcD_obj (R := liftR Ob.fil rEqF) insC rfl rfl h_f_eq ⟨[.obj w1, .obj u1], .bl (decide (w1 = u1)), rfl, rfl, w1, .obj u1, rfl, ?_⟩
      congr 1
      show decide (w1 = u1) = (decide (w1.p = u1.p) && decide (w1.ps = u1.ps))
      obtain ⟨p, ps⟩ := w1
      obtain ⟨p', ps'⟩ := u1
      by_cases h1 : p = p' <;> by_cases h2 : ps = ps' <;> simp [h1, h2]
    refine ⟨_, (pss_cons (ps_if (pt_not (pt_val (pe_callB (call_isiK' K) (by rfl) B.isinstance (by decide +kernel) (pa_cons (pv 1) (pa_cons (pe_glob (v := .ref C_Table) rfl g_Table rfl) pa_nil))))) (pss_one (ps_ret pe_bl)) pss_nil)
    (pss_one (ps_ret (pe_and (pe_cmpR op_eq (pe_fldK K (pv 0)) (pe_fldK K (pv 1)) (nomark _)) (pe_and (pe_cmpR op_eq (pe_fldK K (pv 0)) (pe_fldK K (pv 1)) (nomark _)) (pe_one (pe_cmpR (op_eqDq same_ob (fun o1 o2 b hq => hoq hq) 2 (hr.mono (by first | decide | exact Nat.le_refl _))) (pe_fldK K (pv 0)) (pe_fldK K (pv 1)) (nomark _)))))))), ?_⟩
    have hs := ed_var (K := K) (O := ObO K CF C_Table) (i := 0) (σ := [some v, some v2]) rfl a
    have ho := ed_var (K := K) (O := ObO K CF C_Table) (i := 1) (σ := [some v, some v2]) rfl a2
    refine q_whenG (b := !isTab d1) (et_not (et_B (isi_tab c ho))) e (fun hb H2 l2 => ?_) (fun hb H2 l2 => ?_)
    · refine s_retD (d := .bl (eqT t d1)) (ed_of (v := .bl false) ev_c ?_) l2.e (RetG.mono l2 k)
      have : eqT t d1 = false := by
        cases d1 with
        | obj o => cases o with
          | fil f => rfl
          | tab u => cases hb
        | _ => rfl
      rw [this]
      exact at_bl.mpr rfl
    · cases d1 with
      | obj o =>
        cases o with
        | fil f => cases hb
        | tab u =>
          refine s_retD (ed_of (v := .bl (eqT t (.obj (.tab u)))) (ev_is (ev_andV (a := decide (t.p = u.p)) (b := decide (t.w = u.w) && decide (t.ls = u.ls)) (ev_is (ev_op (ev_tprime c hs) (ev_tprime c ho) (rv_eq rfl)) ?_) fun _ => ev_andV (a := decide (t.w = u.w)) (b := decide (t.ls = u.ls)) (ev_is (ev_op (ev_twidth c hs) (ev_twidth c ho) (rv_eq rfl)) ?_) fun _ => ev_eqQ (ed_lines c hs) (ed_lines c ho) ⟨dq_lines _ _, rfl⟩) ?_) (at_bl.mpr rfl)) l2.e (RetG.mono l2 k)
          · by_cases h : t.p = u.p <;> simp [h]
          · by_cases h : t.w = u.w <;> simp [h]
          · show V.bl (decide (t.p = u.p) && (decide (t.w = u.w) && decide (t.ls = u.ls))) = V.bl (decide (t = u))
            obtain ⟨p, wd, ls⟩ := t
            obtain ⟨p', wd', ls'⟩ := u
            by_cases h1 : p = p' <;> by_cases h2 : wd = wd' <;> by_cases h3 : ls = ls' <;> simp [h1, h2, h3]
      | _ => cases hb
/-! ### + -/
def rCheckT : List (D Ob) → D Ob → Prop := fun ds r => ∃ t u, ds = [.obj (.tab t), .obj (.tab u)] ∧ t.p = u.p ∧ t.w = u.w ∧ r = .non
abbrev check_tables_S : Stmt := topS 94
abbrev check_tables_N : List Str := ["t", "u"]
theorem check_tables_sc : FnScope check_tables_N ["t", "u"] (defScope check_tables_S) := ⟨rfl, rfl, rfl, by decide +kernel, rfl, by decide +kernel, by decide +kernel⟩
theorem ok_check_tables {f : Addr} {fd : FuncData} (F : Fun K "check_tables" "check_tables" check_tables_S f fd) (c : TabC K CF CT) : FnOk P w K mg base CX0 1 f fd ["t", "u"] (SpD K (ObO K CF CT) rCheckT) := by
  refine F.ok check_tables_sc (fun vs H Q E h => ?_) (fun cdv A outer s H vs Q E hr h => ?_)
  · obtain ⟨G, ds, d, e, as, ⟨t, u, rfl, _⟩, k⟩ := h
    exact as.len
  · obtain ⟨G, ds, d, e, as, ⟨t, u, rfl, hp, hw, rfl⟩, k⟩ := h
    obtain ⟨v, r, rfl, a, n⟩ := atL_cons.mp as
    obtain ⟨v2, r2, rfl, a2, n2⟩ := atL_cons.mp n
    obtain rfl := atL_nil.mp n2
    refine ⟨_, (pss_one (ps_if (PW.pt (pw_or (pt_cmpR op_ne (pe_fldK K (pv 0)) (pe_fldK K (pv 1)) (nomark _)) (pw_or1 (pt_cmpR op_ne (pe_fldK K (pv 0)) (pe_fldK K (pv 1)) (nomark _))))) (pss_one ps_never) pss_nil)), ?_⟩
    have hs := ed_var (K := K) (O := ObO K CF CT) (i := 0) (σ := [some v, some v2]) rfl a
    have ho := ed_var (K := K) (O := ObO K CF CT) (i := 1) (σ := [some v, some v2]) rfl a2
    exact s_ifG (b := false) (et_is (et_or (et_test (ev_op (ev_tprime c hs) (ev_tprime c ho) (rv_ne rfl))) fun _ => et_test (ev_op (ev_twidth c hs) (ev_twidth c ho) (rv_ne rfl))) (by rw [hp, hw]; simp)) e (fun z => nomatch z) fun _ H2 l => k _ G H2 l (at_non.mpr rfl)
def rAddT : List (D Ob) → D Ob → Prop := fun ds r => ∃ t u, ds = [.obj (.tab t), .obj (.tab u)] ∧ GoodT t ∧ GoodT u ∧ t.p = u.p ∧ t.w = u.w ∧ t.ls.length + u.ls.length ≤ 30000 ∧ r = .obj (.tab ⟨t.p, t.w, t.ls ++ u.ls⟩)
abbrev Table___add___S : Stmt := inClass (topS 101) 13
abbrev Table___add___N : List Str := ["self", "other"]
theorem Table___add___sc : FnScope Table___add___N ["self", "other"] (defScope Table___add___S) := ⟨rfl, rfl, rfl, by decide +kernel, rfl, by decide +kernel, by decide +kernel⟩
theorem ok_tadd {f : Addr} {fd : FuncData} (F : Fun K "__add__" "Table.__add__" Table___add___S f fd) (B : Bi mg) (c : TabC K CF CT) {C_Table : Addr} (hCT : C_Table = CT) (g_Table : mg "Table" = some (.ref C_Table)) (h_check_tables : DefOk P w K mg base 1 "check_tables" ["t", "u"] (SpD K (ObO K CF CT) rCheckT))
    (h_Table : MakeOk P w K mg base C_Table 4 "Table" ["self", "prime", "width", "rows"] [] (spTInit K CF CT)) : FnOk P w K mg base CX0 6 f fd ["self", "other"] (SpD K (ObO K CF CT) rAddT) := by
  subst hCT
  refine F.ok Table___add___sc (fun vs H Q E h => ?_) (fun cdv A outer s H vs Q E hr h => ?_)
  · obtain ⟨G, ds, d, e, as, ⟨t, u, rfl, _⟩, k⟩ := h
    exact as.len
  · obtain ⟨G, ds, d, e, as, ⟨t, u, rfl, gt, gu, hp, hw, hz, rfl⟩, k⟩ := h
    obtain ⟨v, r, rfl, a, n⟩ := atL_cons.mp as
    obtain ⟨v2, r2, rfl, a2, n2⟩ := atL_cons.mp n
    obtain rfl := atL_nil.mp n2
    refine ⟨_, (pss_cons (ps_if (pt_not (pt_val (pe_callB (call_isiK' K) (by rfl) B.isinstance (by decide +kernel) (pa_cons (pv 1) (pa_cons (pe_glob (v := .ref C_Table) rfl g_Table rfl) pa_nil))))) (pss_one ps_never) pss_nil)
    (pss_cons (ps_expr (pe_callD h_check_tables (hr.mono (by first | decide | exact Nat.le_refl _)) (pa_cons (pv 0) (pa_cons (pv 1) pa_nil))))
    (pss_one (ps_ret (pe_makeD h_Table (hr.mono (by first | decide | exact Nat.le_refl _)) (pa_cons (pe_fldK K (pv 0)) (pa_cons (pe_fldK K (pv 0)) (pa_cons (pe_op op_catA (pe_fldK K (pv 0)) (pe_fldK K (pv 1))) pa_nil)))))))), ?_⟩
    have hs := ed_var (K := K) (O := ObO K CF C_Table) (i := 0) (σ := [some v, some v2]) rfl a
    have ho := ed_var (K := K) (O := ObO K CF C_Table) (i := 1) (σ := [some v, some v2]) rfl a2
    refine q_skip (et_is (et_not (et_B (isi_tab c ho))) rfl) e fun H2 l2 => ?_
    refine ed_call (d := .non) (eda_cons hs (eda_cons ho eda_nil)) ⟨t, u, rfl, hp, hw, rfl⟩ H2 l2.e _ fun vn G4 H4 l4 an => ?_
    have hs4 := hs.mono l4.g
    have ho4 := ho.mono l4.g
    have hg : ∀ l ∈ t.ls ++ u.ls, GoodR t.p t.w l := fun l hl => by
      rcases List.mem_append.mp hl with q | q
      · exact gt.2.2.2 l q
      · have := gu.2.2.2 l q
        rw [← hp, ← hw] at this
        exact this
    have h9 := ed_tmake (K := K) (CF := CF) (CT := C_Table) (E := E0) (σ := [some v, some v2]) (G := G4) (p := t.p) (wd := t.w) (d := linesD (t.ls ++ u.ls)) (eda_cons (ed_of (ev_tprime c hs4) (at_int.mpr rfl)) (eda_cons (ed_of (ev_twidth c hs4) (at_int.mpr rfl)) (eda_cons (by
      have q := ed_plusT (ed_lines c hs4) (ed_lines c ho4) (by rw [List.length_map, List.length_map]; omega)
      rw [← List.map_append] at q
      exact q) eda_nil))) gt.1 gt.2.1 gt.2.2.1 (rows_lines hg) (by rw [List.length_map, List.length_append]; exact hz)
    have e8 : ((t.ls ++ u.ls).map fun l => (false, l)).map (fun r : Rw => r.2) = t.ls ++ u.ls := by rw [List.map_map]; exact List.map_id' _
    rw [e8] at h9
    exact s_retD h9 l4.e (k.mono (l2.trans l4))
end
end SR
set_option maxRecDepth 100000
set_option maxHeartbeats 4000000
namespace SR
open PySem PySem.Spec PyProof.Rows L2 Evl
section
variable {ω : Type} {K : PySem.W.Frag} {O : OI ω} {G H : Hp} {te : TE} {σ : L2.St}
theorem At2.grow {s q : Addr} {G H H' : Hp} {n : Nat} (a : At2 s q G H n) (e : Ex H H') : At2 s q G H' n := a.le (Le.heap a.e e)
/-- a comprehension whose element draws -/
theorem x_lcX {wi : TI} {g : TG} {tt : TT} {vs : List Nat} {ds : List (D ω)} {s q : Addr} {n add : Nat} (Pd : Nat → D ω → Prop) (hs : Src K O wi σ G ds) (hz : ds.length ≤ 40000) (A0 : At2 s q G H n)
    (body : ∀ (i : Nat) (d : D ω) (x : V) (Gi Hi : Hp), i < ds.length → ds[i]? = some d → LeX s q G H Gi Hi → At2 s q Gi Hi (n + add * i) → At K O Gi d x → ∀ Q : L2.St → Hp → Prop,
      (∀ σ2 H2, Ex Hi H2 → wipe σ2 vs = wipe σ vs → EvT tt σ2 Gi true → (∀ (H3 : Hp) (Q3 : VK), LeX s q G H Gi H3 → At2 s q Gi H3 (n + add * i) → (∀ (d' : D ω) (v : V) (G4 H4 : Hp), Pd i d' → LeX s q Gi H3 G4 H4 → Spr H4 s q (n + add * (i + 1)) → At K O G4 d' v → Q3 v H4) → te σ2 H3 Q3) → Q σ2 H2) → g x (wipe σ vs) Hi Q) :
    ∀ Q : VK, (∀ (Dl : Addr) (Gi H2 : Hp) (us : List V) (es : List (D ω)), H Dl = none → LeX s q G H (upd Gi Dl (.lst us)) H2 → Spr H2 s q (n + add * ds.length) → Gi Dl = none → AtL K O Gi es us → es.length = ds.length → (∀ i d, es[i]? = some d → Pd i d) → Q (.ref Dl) H2) → tLc wi g tt te vs σ H Q := fun Q k => by
  refine hs H A0.e _ fun J Gd Y G0 H0 l0 w hG yl => ?_
  intro Dl hD
  have A1 : At2 s q G0 H0 n := A0.le l0
  have Ds : Dl ≠ s := by intro z; subst z; exact A1.spr.sne hD
  have Dq : Dl ≠ q := by intro z; subst z; exact A1.spr.qne hD
  refine lc_it w (fun i H => ∃ Gi us es, LeX s q G0 H0 Gi H ∧ At2 s q Gi H (n + add * i) ∧ H Dl = some (.lst us) ∧ Gi Dl = none ∧ AtL K O Gi es us ∧ es.length = i ∧ ∀ j d, es[j]? = some d → Pd j d)
    ⟨G0, [], [], (Le.newM l0.e hD).x, A1.le (Le.newM A1.e hD), upd_same, none_of_ex l0.e hD, atL_nil.mpr rfl, rfl, fun j d z => by simp at z⟩ (fun i H _ p => ?_) (fun i x Hi Hi' hi p y => ?_) fun H p => ?_
  · obtain ⟨Gi, us, es, l, _⟩ := p
    exact hG H (l.g.trans l.e)
  · obtain ⟨Gi, us, es, l, Ai, hu, gn, as, hl, hp⟩ := p
    obtain ⟨d, Gi', hd, l', ad⟩ := yl i Gi Hi x Hi' l.g l.e hi y
    have gn' : Gi' Dl = none := l'.gnone gn (by rw [hu]; exact fun z => nomatch z)
    have hu' : Hi' Dl = some (.lst us) := l'.h Dl _ hu
    have lt : LeX s q G0 H0 Gi' Hi' := l.trans l'.x
    have Ai' := Ai.le l'
    refine body i d x Gi' Hi' hi hd (l0.x.trans lt) Ai' ad _ fun σ2 H2 e2 hw ht he => ⟨hw, ?_⟩
    refine ht H2 (l'.e.trans e2) _ fun H3 e3 => ?_
    have e23 := e2.trans e3
    rw [if_pos rfl]
    have A3 := Ai'.grow e23
    have lt3 := lt.trans (Le.heap Ai'.e e23).x
    refine he H3 _ (l0.x.trans lt3) A3 fun d' v G4 H4 hd' l4 sp4 a4 => ?_
    have hu3 : H3 Dl = some (.lst us) := e23 Dl _ hu'
    have hu4 : H4 Dl = some (.lst us) := l4.h Dl _ Ds Dq hu3
    have gn4 : G4 Dl = none := l4.gnone gn' (by rw [hu3]; exact fun z => nomatch z)
    have A4 := A3.go l4 sp4
    have l5 : LeX s q G0 H0 G4 H4 := lt3.trans l4
    have ul : us.length = i := by rw [as.len, hl]
    refine ⟨us, hu4, sz_lt (by omega), G4, us ++ [v], es ++ [d'], l5.mut hD gn4, ⟨(l5.mut hD gn4).e, A4.gs, A4.gq, ?_⟩, upd_same, gn4, (as.mono (l'.g.trans l4.g)).app (AtL.one a4), by rw [List.length_append, hl]; rfl, fun j d hd => ?_⟩
    · obtain ⟨cells, r, m, sd, z1, z2, z3⟩ := sp4.ex
      exact ⟨cells, r, m, sd, by rw [upd_ne (Ne.symm Ds)]; exact z1, by rw [upd_ne (Ne.symm Dq)]; exact z2, z3⟩
    · rcases Nat.lt_or_ge j es.length with hj | hj
      · rw [List.getElem?_append_left hj] at hd
        exact hp j d hd
      · rw [List.getElem?_append_right hj] at hd
        have hj0 : j - es.length = 0 := by
          rcases Nat.eq_zero_or_pos (j - es.length) with z | z
          · exact z
          · rw [List.getElem?_eq_none (by show 1 ≤ j - es.length; omega)] at hd; cases hd
        rw [hj0] at hd
        obtain rfl := Option.some.inj hd
        have : j = i := by omega
        rw [this]; exact hd'
  · obtain ⟨Gi, us, es, l, Ai, hu, gn, as, hl, hp⟩ := p
    exact k Dl Gi H us es (fresh_back l0.h hD) (l0.x.trans (LeX.fix l0.e l hD hu)) Ai.spr gn as hl hp
end
/-! ### what the law draws -/
def rD (r : List PL) : D Ob := .lst (r.map D.dic)
def rsD (o : List (List PL)) : D Ob := .lst (o.map rD)
def OkM (p : Int) (m : PL) : Prop := coll p m = m ∧ (m.map (·.1)).Nodup ∧ m.length ≤ 20000
def OkR (p w : Int) (r : List PL) : Prop := (r.length : Int) = w ∧ ∀ m ∈ r, OkM p m
def fR (p : Int) (r : List PL) : List FilS := r.map fun m => ⟨p, m⟩
def tT (p w : Int) (o : List (List PL)) : TabS := ⟨p, w, o.map (fR p)⟩
theorem okM_coll {p : Int} (hp : 0 < p) {a : PL} (h : a.length ≤ 20000) : OkM p (coll p a) := ⟨coll_coll hp, coll_nd, Nat.le_trans coll_len h⟩
theorem fR_good {p w : Int} {r : List PL} (h : OkR p w r) : GoodR p w (fR p r) := ⟨by unfold fR; rw [List.length_map]; exact h.1, fun f hf => by
  obtain ⟨m, _, rfl⟩ := List.mem_map.mp hf
  rfl⟩
section
variable {P : Program} {w : World} {K : PySem.W.Frag} {mg : Str → Option Value} {base : Heap} {CF CT : Addr}
/-! ### _law_row -/
def pRow : List (D Ob) → Prop := fun ds => ∃ (p wd most reach : Int), ds = [.int p, .int wd, .int most, .int reach] ∧ primes.contains p = true ∧ 0 ≤ wd ∧ wd ≤ 5 ∧ 0 ≤ most ∧ most ≤ 8 ∧ 0 ≤ reach ∧ reach ≤ 100
def rRowX : List (D Ob) → D Ob → Prop := fun ds d => ∃ (p wd most reach : Int) (r : List PL), ds = [.int p, .int wd, .int most, .int reach] ∧ d = rD r ∧ OkR p wd r
theorem rD_of {p : Int} : ∀ {es : List (D Ob)}, (∀ d ∈ es, ∃ m, d = D.dic m ∧ OkM p m) → ∃ r : List PL, es = r.map D.dic ∧ r.length = es.length ∧ ∀ m ∈ r, OkM p m
  | [], _ => ⟨[], rfl, rfl, fun m z => nomatch z⟩
  | d :: es, h => by
    obtain ⟨m, rfl, hm⟩ := h d (List.mem_cons_self ..)
    obtain ⟨r, rfl, hl, hr⟩ := rD_of fun d hd => h d (List.mem_cons_of_mem _ hd)
    exact ⟨m :: r, rfl, by simp, fun x hx => by
      rcases List.mem_cons.mp hx with rfl | z
      · exact hm
      · exact hr x z⟩
abbrev _law_row_S : Stmt := topS 114
abbrev _law_row_N : List Str := ["_law_spring_here", "_law_p", "_law_width", "_law_most", "_law_reach", "_law_column"]
theorem _law_row_sc : FnScope _law_row_N ["_law_spring_here", "_law_p", "_law_width", "_law_most", "_law_reach"] (defScope _law_row_S) := ⟨rfl, rfl, rfl, by decide +kernel, rfl, by decide +kernel, by decide +kernel⟩
theorem ok_row {f : Addr} {fd : FuncData} (F : Fun K "_law_row" "_law_row" _law_row_S f fd) (B : Bi mg) (h__law_drawn : DefOk P w K mg base 2 "_law_drawn" ["_law_spring_here", "_law_prime_here", "_law_most", "_law_reach"] (SpX K (ObO K CF CT) 20 pDrawn rDrawn)) :
    FnOk P w K mg base CX0 3 f fd ["_law_spring_here", "_law_p", "_law_width", "_law_most", "_law_reach"] (SpX K (ObO K CF CT) 100 pRow rRowX) := by
  refine F.ok _law_row_sc (fun vs H Q E h => ?_) (fun cdv A outer s0 H vs Q E hr h => ?_)
  · obtain ⟨G, s, q, n, ds, ws, rfl, e, gs, gq, spr, hn, as, ⟨p, wd, m, re, rfl, _⟩, k⟩ := h
    show (V.ref s :: ws).length = 5
    rw [List.length_cons, as.len]
    rfl
  · obtain ⟨G, s, q, n, ds, ws, rfl, e, gs, gq, spr, hn, as, ⟨p, wd, most, reach, rfl, hp, hw0, hw5, hm0, hm8, hr0, hr9⟩, k⟩ := h
    obtain ⟨v1, r1, rfl, a1, n1⟩ := atL_cons.mp as
    obtain ⟨v2, r2, rfl, a2, n2⟩ := atL_cons.mp n1
    obtain ⟨v3, r3, rfl, a3, n3⟩ := atL_cons.mp n2
    obtain ⟨v4, r4, rfl, a4, n4⟩ := atL_cons.mp n3
    obtain rfl := atL_nil.mp n4
    obtain rfl := at_int.mp a1
    obtain rfl := at_int.mp a2
    obtain rfl := at_int.mp a3
    obtain rfl := at_int.mp a4
    have A0 : At2 s q G H n := ⟨e, gs, gq, spr⟩
    have hp2 := prime_lt hp
    refine ⟨_, (pss_one (ps_ret (pe_lc (own := [("_law_column", 5)]) rfl _law_row_sc.nd (pi_range1 (by rfl) B.range (pa_cons (pv 2) pa_nil)) (blkOk_by (N := _law_row_N) (sc := defScope _law_row_S) (by decide +kernel)) (fun _ _ _ _ _ => (pg_name (i := 5) _law_row_sc.nd rfl (Or.inl rfl))) (fun _ _ _ _ _ => pts_nil) (fun _ _ _ _ _ => by exact (pe_callD h__law_drawn (hr.mono (by first | decide | exact Nat.le_refl _)) (pa_cons (pv 0) (pa_cons (pv 1) (pa_cons (pv 3) (pa_cons (pv 4) pa_nil))))))))), ?_⟩
    show tLc _ _ _ _ _ _ _ _
    refine x_lcX (K := K) (O := ObO K CF CT) (add := 20) (fun _ d => ∃ m, d = D.dic m ∧ OkM p m) (src_r1 (O := ObO K CF CT) (n := wd) (ea_cons (ev_var (i := 2) rfl) ea_nil) ⟨by omega, by omega⟩) (by simp [rngD]; omega) A0 (fun i d x Gi Hi hi hd eg Ai ad Q' hQ => ?_) _ fun Dl Gz H2 us es hD l sp gn as hl hes => ?_
    · have hi5 : i < 5 := by
        have : (rngD (ω := Ob) 0 wd.toNat).length = wd.toNat := by simp [rngD]
        omega
      refine hQ _ Hi (Ex.refl _) rfl et_yes fun H3 Q3 _ A3 k3 => ?_
      refine x_call A3.e A3.gs A3.gq A3.spr (by omega) (i := 0) rfl (eda_cons (ed_of (ev_var (i := 1) rfl) (at_int.mpr rfl)) (eda_cons (ed_of (ev_var (i := 3) rfl) (at_int.mpr rfl)) (eda_cons (ed_of (ev_var (i := 4) rfl) (at_int.mpr rfl)) eda_nil))) ⟨p, most, reach, rfl, hp, hm0, hm8, hr0, hr9⟩ fun d v G4 H4 ⟨p', m', re', rows, hdq, hd', hrl, _⟩ l4 sp4 a4 => ?_
      obtain rfl : p = p' := D.int.inj (List.cons.inj hdq).1
      obtain rfl : most = m' := D.int.inj (List.cons.inj (List.cons.inj hdq).2).1
      exact k3 d v G4 H4 ⟨_, hd', okM_coll (by omega) (by omega)⟩ l4 (by rw [Nat.mul_add, Nat.mul_one, ← Nat.add_assoc]; exact sp4) a4
    · have hlen : (rngD (ω := Ob) 0 wd.toNat).length = wd.toNat := by simp [rngD]
      obtain ⟨r, rfl, hrl, hr⟩ := rD_of (fun d hd => by
        obtain ⟨j, hj, rfl⟩ := List.mem_iff_getElem.mp hd
        exact hes j _ (List.getElem?_eq_getElem hj))
      have al : At K (ObO K CF CT) (upd Gz Dl (.lst us)) (rD r) (.ref Dl) := at_lst.mpr ⟨Dl, us, rfl, upd_same, as.mono (Ex.new gn)⟩
      refine k (rD r) _ _ H2 ⟨p, wd, most, reach, r, rfl, rfl, ⟨by omega, hr⟩⟩ l (sp.keep (fun _ _ z => z) (by rw [hlen]; omega)) al
/-! ### _law_filters, _law_row_is -/
def rFils : List (D Ob) → D Ob → Prop := fun ds d => ∃ (p : Int) (r : List PL), ds = [.int p, rD r] ∧ primes.contains p = true ∧ r.length ≤ 30000 ∧ (∀ m ∈ r, OkM p m) ∧ d = rwL (fR p r)
def mkFil (p : Int) : D Ob → D Ob | .dic m => fo ⟨p, m⟩ | d => d
abbrev _law_filters_S : Stmt := topS 115
abbrev _law_filters_N : List Str := ["_law_p", "_law_row_here", "_law_held_here"]
theorem _law_filters_sc : FnScope _law_filters_N ["_law_p", "_law_row_here"] (defScope _law_filters_S) := ⟨rfl, rfl, rfl, by decide +kernel, rfl, by decide +kernel, by decide +kernel⟩
theorem ok_filters {f : Addr} {fd : FuncData} (F : Fun K "_law_filters" "_law_filters" _law_filters_S f fd) (B : Bi mg) (h__law_made : DefOk P w K mg base 6 "_law_made" ["_law_prime_here", "_law_held_here"] (SpD K (ObO K CF CT) (liftR Ob.fil rMade))) :
    FnOk P w K mg base CX0 7 f fd ["_law_p", "_law_row_here"] (SpD K (ObO K CF CT) rFils) := by
  refine F.ok _law_filters_sc (fun vs H Q E h => ?_) (fun cdv A outer s0 H vs Q E hr h => ?_)
  · obtain ⟨G, ds, d, e, as, ⟨p, r, rfl, _⟩, k⟩ := h
    exact as.len
  · obtain ⟨G, ds, d, e, as, ⟨p, r, rfl, hp, hz, hok, rfl⟩, k⟩ := h
    obtain ⟨v1, r1, rfl, a1, n1⟩ := atL_cons.mp as
    obtain ⟨v2, r2, rfl, a2, n2⟩ := atL_cons.mp n1
    obtain rfl := atL_nil.mp n2
    obtain rfl := at_int.mp a1
    refine ⟨_, (pss_one (ps_ret (pe_lc (own := [("_law_held_here", 2)]) rfl _law_filters_sc.nd (pi_list (pv 1)) (blkOk_by (N := _law_filters_N) (sc := defScope _law_filters_S) (by decide +kernel)) (fun _ _ _ _ _ => (pg_name (i := 2) _law_filters_sc.nd rfl (Or.inl rfl))) (fun _ _ _ _ _ => pts_nil) (fun _ _ _ _ _ => by exact (pe_callD h__law_made (hr.mono (by first | decide | exact Nat.le_refl _)) (pa_cons (pv 0) (pa_cons (pv 2) pa_nil))))))), ?_⟩
    have h7 := ed_lc (K := K) (O := ObO K CF CT) (G := G) (te := tCall (SpD K (ObO K CF CT) (liftR Ob.fil rMade)) [] E0 (tCons (tVar 0) (tCons (tVar 2) tNil))) (tt := tYes) (vs := [2]) (g := gName 2) (σ := [some (.int p), some v2, none]) (fun _ => true) (mkFil p) (src_list (ed_var (i := 1) rfl a2)) (by rw [List.length_map]; omega) (fun i d x Gi Hi hd eg eh ad Q' hQ => ?_)
    · have e8 : (((r.map D.dic).filter fun _ => true).map (mkFil p)) = (fR p r).map fo := by
        rw [List.filter_eq_self.mpr (fun _ _ => rfl)]
        unfold fR
        rw [List.map_map, List.map_map]
        rfl
      rw [e8] at h7
      exact s_retD h7 e k
    · rw [List.getElem?_map] at hd
      obtain ⟨m, hm, rfl⟩ := Option.map_eq_some_iff.mp hd
      have hk := hok m (List.mem_of_getElem? hm)
      refine hQ _ Hi (Ex.refl _) rfl et_yes fun _ => ?_
      exact ed_call (eda_cons (ed_of (ev_var (i := 0) rfl) (at_int.mpr rfl)) (eda_cons (ed_var (i := 2) rfl ad) eda_nil)) ⟨[.int p, .dic m], .obj ⟨p, m⟩, rfl, rfl, p, m, rfl, hp, hk.2.1, hk.2.2, hk.1, rfl⟩
/-- .. a new list -/
def spFilsN (K : PySem.W.Frag) (CF CT : Addr) : Sp := fun vs H Q _ => ∃ G p r v, vs = [.int p, v] ∧ Ex G H ∧ primes.contains p = true ∧ r.length ≤ 30000 ∧ (∀ m ∈ r, OkM p m) ∧ At K (ObO K CF CT) G (rD r) v ∧ ∀ l G2 H2, H l = none → Le G H G2 H2 → At K (ObO K CF CT) G2 (rwL (fR p r)) (.ref l) → Q (.ref l) H2
theorem ok_filtersN {f : Addr} {fd : FuncData} (F : Fun K "_law_filters" "_law_filters" _law_filters_S f fd) (B : Bi mg) (h__law_made : DefOk P w K mg base 6 "_law_made" ["_law_prime_here", "_law_held_here"] (SpD K (ObO K CF CT) (liftR Ob.fil rMade))) :
    FnOk P w K mg base CX0 7 f fd ["_law_p", "_law_row_here"] (spFilsN K CF CT) := by
  refine F.ok _law_filters_sc (fun vs H Q E h => ?_) (fun cdv A outer s0 H vs Q E hr h => ?_)
  · obtain ⟨G, p, r, v, rfl, _⟩ := h
    rfl
  · obtain ⟨G, p, r, v2, rfl, e, hp, hz, hok, a2, k⟩ := h
    refine ⟨_, (pss_one (ps_ret (pe_lc (own := [("_law_held_here", 2)]) rfl _law_filters_sc.nd (pi_list (pv 1)) (blkOk_by (N := _law_filters_N) (sc := defScope _law_filters_S) (by decide +kernel)) (fun _ _ _ _ _ => (pg_name (i := 2) _law_filters_sc.nd rfl (Or.inl rfl))) (fun _ _ _ _ _ => pts_nil) (fun _ _ _ _ _ => by exact (pe_callD h__law_made (hr.mono (by first | decide | exact Nat.le_refl _)) (pa_cons (pv 0) (pa_cons (pv 2) pa_nil))))))), ?_⟩
    have e8 : (((r.map D.dic).filter fun _ => true).map (mkFil p)) = (fR p r).map fo := by
      rw [List.filter_eq_self.mpr (fun _ _ => rfl)]
      unfold fR
      rw [List.map_map, List.map_map]
      rfl
    refine x_lc (K := K) (O := ObO K CF CT) (G := G) (te := tCall (SpD K (ObO K CF CT) (liftR Ob.fil rMade)) [] E0 (tCons (tVar 0) (tCons (tVar 2) tNil))) (tt := tYes) (vs := [2]) (g := gName 2) (σ := [some (.int p), some v2, none]) (fun _ => true) (mkFil p) (src_list (ed_var (i := 1) rfl a2)) (by rw [List.length_map]; omega) (fun i d x Gi Hi hd eg eh ad Q' hQ => ?_) H e _ fun Dl G2 H2 hD l al => ?_
    · rw [List.getElem?_map] at hd
      obtain ⟨m, hm, rfl⟩ := Option.map_eq_some_iff.mp hd
      have hk := hok m (List.mem_of_getElem? hm)
      refine hQ _ Hi (Ex.refl _) rfl et_yes fun _ => ?_
      exact ed_call (eda_cons (ed_of (ev_var (i := 0) rfl) (at_int.mpr rfl)) (eda_cons (ed_var (i := 2) rfl ad) eda_nil)) ⟨[.int p, .dic m], .obj ⟨p, m⟩, rfl, rfl, p, m, rfl, hp, hk.2.1, hk.2.2, hk.1, rfl⟩
    · rw [e8] at al
      exact k Dl G2 H2 hD l al
def rRowIs : List (D Ob) → D Ob → Prop := fun ds d => ∃ (p : Int) (r : List PL), ds = [rwL (fR p r), .int p, rD r] ∧ r.length ≤ 30000 ∧ (∀ m ∈ r, OkM p m) ∧ d = .bl true
theorem zip_get {γ δ : Type} {ω : Type} {g : γ → D ω} {h : γ → D ω} {l : List γ} {i : Nat} {d : D ω} (hd : (zipD (l.map g) (l.map h))[i]? = some d) : ∃ x, l[i]? = some x ∧ d = .tup [g x, h x] := by
  unfold zipD at hd
  rw [List.zip_map', List.map_map, List.getElem?_map] at hd
  obtain ⟨x, hx, rfl⟩ := Option.map_eq_some_iff.mp hd
  exact ⟨x, hx, rfl⟩
theorem all_true {ω : Type} {l : List (D ω)} : ((l.filter fun _ => true).map fun _ => (D.bl true : D ω)) = (l.map fun _ => true).map D.bl := by
  rw [List.filter_eq_self.mpr (fun _ _ => rfl), List.map_map]
  rfl
theorem all_id {α : Type} {l : List α} : (l.map fun _ => true).all id = true := by rw [List.all_map]; simp
abbrev _law_row_is_S : Stmt := topS 116
abbrev _law_row_is_N : List Str := ["_law_row_here", "_law_p", "_law_due", "_law_f", "_law_held_here"]
theorem _law_row_is_sc : FnScope _law_row_is_N ["_law_row_here", "_law_p", "_law_due"] (defScope _law_row_is_S) := ⟨rfl, rfl, rfl, by decide +kernel, rfl, by decide +kernel, by decide +kernel⟩
theorem ok_row_is {f : Addr} {fd : FuncData} (F : Fun K "_law_row_is" "_law_row_is" _law_row_is_S f fd) (B : Bi mg) (c : TabC K CF CT) (h__law_is : DefOk P w K mg base 5 "_law_is" ["_law_f", "_law_prime_here", "_law_held_here"] (SpD K (ObO K CF CT) (liftR Ob.fil rIs))) :
    FnOk P w K mg base CX0 6 f fd ["_law_row_here", "_law_p", "_law_due"] (SpD K (ObO K CF CT) rRowIs) := by
  refine F.ok _law_row_is_sc (fun vs H Q E h => ?_) (fun cdv A outer s0 H vs Q E hr h => ?_)
  · obtain ⟨G, ds, d, e, as, ⟨p, r, rfl, _⟩, k⟩ := h
    exact as.len
  · obtain ⟨G, ds, d, e, as, ⟨p, r, rfl, hz, hok, rfl⟩, k⟩ := h
    obtain ⟨v1, r1, rfl, a1, n1⟩ := atL_cons.mp as
    obtain ⟨v2, r2, rfl, a2, n2⟩ := atL_cons.mp n1
    obtain ⟨v3, r3, rfl, a3, n3⟩ := atL_cons.mp n2
    obtain rfl := atL_nil.mp n3
    obtain rfl := at_int.mp a2
    refine ⟨_, (pss_cons (ps_if (PW.pt (pw_or (pt_not (pt_val (pe_callB (call_isiK' K) (by rfl) B.isinstance (by decide +kernel) (pa_cons (pv 0) (pa_cons (pe_bltn (v := .ty "list") (by rfl) B.list (by decide +kernel) rfl) pa_nil))))) (pw_or1 (pt_cmpR op_ne (pe_callB (call_lenK K) (by rfl) B.len (by decide +kernel) (pa_cons (pv 0) pa_nil)) (pe_callB (call_lenK K) (by rfl) B.len (by decide +kernel) (pa_cons (pv 2) pa_nil)) (nomark _))))) (pss_one (ps_ret pe_bl)) pss_nil)
    (pss_one (ps_ret (pe_callB (cr_allK K rfl) (by rfl) B.all (by decide +kernel) (pa_cons (pe_lc (own := [("_law_f", 3), ("_law_held_here", 4)]) rfl _law_row_is_sc.nd (RZ.pi_zipA (by rfl) B.zip (pa_cons (pv 0) (pa_cons (pv 2) pa_nil))) (blkOk_by (N := _law_row_is_N) (sc := defScope _law_row_is_S) (by decide +kernel)) (fun _ _ _ _ _ => (pg_tupK (k := 2) K rfl (pgs_cons (pg_name (i := 3) _law_row_is_sc.nd rfl (Or.inl rfl)) (pgs_cons (pg_name (i := 4) _law_row_is_sc.nd rfl (Or.inl rfl)) pgs_nil)))) (fun _ _ _ _ _ => pts_nil) (fun _ _ _ _ _ => by exact (pe_callD h__law_is (hr.mono (by first | decide | exact Nat.le_refl _)) (pa_cons (pv 3) (pa_cons (pv 1) (pa_cons (pv 4) pa_nil)))))) pa_nil))))), ?_⟩
    have h1 : EvD K (ObO K CF CT) (tVar 0) [some v1, some (.int p), some v3, none, none] G (rwL (fR p r)) := ed_var rfl a1
    have h3 : EvD K (ObO K CF CT) (tVar 2) [some v1, some (.int p), some v3, none, none] G (rD r) := ed_var rfl a3
    have hl : ((fR p r).map fo) = r.map (fun m => fo ⟨p, m⟩) := by unfold fR; rw [List.map_map]; rfl
    refine q_skip (et_is (et_or (et_not (et_B (isi_list (ot_ob c) h1))) fun _ => et_test (ev_op (len_d h1 rfl) (len_d h3 rfl) (rv_ne rfl))) ?_) e fun H2 l2 => ?_
    · show (!true || !decide (V.int (((fR p r).map fo).length : Nat) = V.int ((r.map D.dic).length : Nat))) = false
      rw [hl, List.length_map, List.length_map]
      simp
    · have src : Src K (ObO K CF CT) (RZ.iZipA K (tCons (tVar 0) (tCons (tVar 2) tNil))) [some v1, some (.int p), some v3, none, none] G (zipD (r.map fun m => fo ⟨p, m⟩) (r.map D.dic)) := by
        have := src_zipL (eda_cons h1 (eda_cons h3 eda_nil))
        rw [hl] at this
        exact this
      have h7 := ed_lc (K := K) (O := ObO K CF CT) (te := tCall (SpD K (ObO K CF CT) (liftR Ob.fil rIs)) [] E0 (tCons (tVar 3) (tCons (tVar 1) (tCons (tVar 4) tNil)))) (tt := tYes) (vs := [3, 4]) (g := gTup K 2 (gCons (gName 3) (gCons (gName 4) gNil))) (fun _ => true) (fun _ => D.bl true) src (by simp [zipD]; omega) (fun i d x Gi Hi hd eg eh ad Q' hQ => ?_)
      · rw [all_true] at h7
        refine s_retD (ed_of (ev_is (ev_allD h7) (by rw [all_id])) (at_bl.mpr rfl)) l2.e (k.mono l2)
      · obtain ⟨m, hm, rfl⟩ := zip_get (γ := PL) (δ := PL) hd
        have hk := hok m (List.mem_of_getElem? hm)
        refine tg_pair ad eh fun x1 x2 b1 b2 => ?_
        refine hQ _ Hi (Ex.refl _) rfl et_yes fun _ => ?_
        exact ed_call (eda_cons (ed_var (i := 3) rfl b1) (eda_cons (ed_of (ev_var (i := 1) rfl) (at_int.mpr rfl)) (eda_cons (ed_var (i := 4) rfl b2) eda_nil))) ⟨[.obj ⟨p, m⟩, .int p, .dic m], .bl true, rfl, rfl, p, m, rfl, hk.2.1, hk.2.2, rfl⟩
end
end SR
set_option maxRecDepth 100000
set_option maxHeartbeats 4000000
namespace SR
open PySem PySem.Spec PyProof.Rows L2 Evl
/-- what was learned is forgotten -/
theorem Le.drop {G H G2 H2 : Hp} (l : Le G H G2 H2) : Le G H G H2 := ⟨l.h, Ex.refl _, l.g.trans l.e, fun _ h _ => h, fun _ _ h => h⟩
section
variable {K : PySem.W.Frag} {CF CT : Addr} {G H : Hp} {te ta tb : TE} {σ : L2.St} {t : TabS}
theorem x_trows (hz : t.ls.length ≤ 30000) (h : EvD K (ObO K CF CT) te σ G (.obj (.tab t))) : ∀ (H1 : Hp), Ex G H1 → ∀ Q : VK, (∀ (l : Addr) (G2 H2 : Hp), H1 l = none → Le G H1 G2 H2 → At K (LkR K CF CT H1) G2 (.lst (t.ls.map .obj)) (.ref l) → Q (.ref l) H2) → tMeth CT "rows" (spRowsN K CF CT) [] E0 te tNil σ H1 Q := fun H1 e Q k =>
  h H1 e _ fun v G2 H2 l a => by
    obtain ⟨x, rfl, dx, lp, h1, h2⟩ := at_obj.mp a
    refine ⟨x, dx, _, rfl, l.e _ _ h1, tlkN (by decide +kernel) (by decide +kernel) (by decide +kernel), G2, t, .ref x, rfl, l.e, hz, a, fun u G3 H3 hu l3 al => k u G3 H3 (l.back hu) (l.trans l3) ?_⟩
    obtain ⟨p, vs, hp, g1, as⟩ := at_lst.mp al
    refine at_lst.mpr ⟨p, vs, hp, g1, ?_⟩
    have key : ∀ {ls : List (List FilS)} {vs : List V}, AtL K (LkR K CF CT H2) G3 (ls.map D.obj) vs → AtL K (LkR K CF CT H1) G3 (ls.map D.obj) vs := by
      intro ls
      induction ls with
      | nil => intro vs z; exact atL_nil.mpr (atL_nil.mp z)
      | cons r ls ih =>
        intro vs z
        obtain ⟨v, u, rfl, b, n⟩ := atL_cons.mp z
        obtain ⟨y, rfl, us, z1, z2, z3⟩ := at_obj.mp b
        exact atL_cons.mpr ⟨_, _, rfl, at_obj.mpr ⟨y, rfl, us, z1, z2, l.back z3⟩, ih n⟩
    exact key as
theorem ed_trows (hz : t.ls.length ≤ 30000) (h : EvD K (ObO K CF CT) te σ G (.obj (.tab t))) : EvD K (ObO K CF CT) (tMeth CT "rows" (spRowsN K CF CT) [] E0 te tNil) σ G (.lst (t.ls.map rwL)) := fun H1 e Q k => x_trows hz h H1 e Q fun l G2 H2 _ le al => k _ G2 H2 le (by
  obtain ⟨p, vs, hp, g1, as⟩ := at_lst.mp al
  exact at_lst.mpr ⟨p, vs, hp, g1, lkr_at as⟩)
theorem ev_tlen (hz : t.ls.length ≤ 30000) (h : EvD K (ObO K CF CT) te σ G (.obj (.tab t))) : Ev (tCB (rLenOwn CT (SpD K (ObO K CF CT) rTLen)) (tCons te tNil)) σ G (.int (t.ls.length : Nat)) := fun H1 e Q q =>
  h H1 e _ fun v G2 H2 l a => by
    obtain ⟨x, rfl, dx, lp, h1, h2⟩ := at_obj.mp a
    exact ⟨x, dx, _, rfl, l.e _ _ h1, G2, [.obj (.tab t)], _, l.e, AtL.one a, ⟨t, rfl, rfl⟩, fun v G3 H3 l3 a3 => ⟨_, at_int.mp a3, by omega, by omega, q H3 (l.h.trans l3.h)⟩⟩
theorem src_titer (h : EvD K (ObO K CF CT) te σ G (.obj (.tab t))) {n : Nat} : Src K (ObO K CF CT) (iOwn K CT (spIt K (ObO K CF CT) rTIter) n te) σ G (t.ls.map rwD) := src_own (T := obC CF CT) insC rfl h ⟨t, rfl, rfl⟩
end
def OkT (p w : Int) (o : List (List PL)) : Prop := primes.contains p = true ∧ 1 ≤ w ∧ w ≤ 20 ∧ o.length ≤ 1000 ∧ ∀ r ∈ o, OkR p w r
theorem OkT.good {p w : Int} {o : List (List PL)} (h : OkT p w o) : GoodT (tT p w o) := ⟨h.1, h.2.1, by show w ≤ 30000; have := h.2.2.1; omega, fun l hl => by
  obtain ⟨r, hr, rfl⟩ := List.mem_map.mp (show l ∈ o.map (fR p) from hl)
  exact fR_good (h.2.2.2.2 r hr)⟩
theorem OkT.len {p w : Int} {o : List (List PL)} (h : OkT p w o) : (tT p w o).ls.length = o.length := by
  show (o.map (fR p)).length = _
  rw [List.length_map]
theorem OkT.row {p w : Int} {o : List (List PL)} (h : OkT p w o) {r : List PL} (hr : r ∈ o) : r.length ≤ 30000 := by
  have h1 := (h.2.2.2.2 r hr).1
  have h2 := h.2.2.1
  omega
section
variable {P : Program} {w : World} {K : PySem.W.Frag} {mg : Str → Option Value} {base : Heap} {CF CT : Addr}
/-! ### _law_table_is -/
def rTableIs : List (D Ob) → D Ob → Prop := fun ds d => ∃ (p wd : Int) (o : List (List PL)), ds = [.obj (.tab (tT p wd o)), .int p, .int wd, rsD o] ∧ OkT p wd o ∧ d = .bl true
abbrev _law_table_is_S : Stmt := topS 117
abbrev _law_table_is_N : List Str := ["_law_t", "_law_p", "_law_width", "_law_due", "_law_rows", "_law_row_here", "_law_held_here"]
theorem _law_table_is_sc : FnScope _law_table_is_N ["_law_t", "_law_p", "_law_width", "_law_due"] (defScope _law_table_is_S) := ⟨rfl, rfl, rfl, by decide +kernel, rfl, by decide +kernel, by decide +kernel⟩
theorem ok_table_is {f C_Table : Addr} {fd : FuncData} (F : Fun K "_law_table_is" "_law_table_is" _law_table_is_S f fd) (B : Bi mg) (hCT : C_Table = CT) (g_Table : mg "Table" = some (.ref C_Table)) (c : TabC K CF CT) (cl : Cls K CT)
    (h__law_same : DefOk P w K mg base 4 "_law_same" ["_law_found", "_law_due"] (SpD K (ObO K CF CT) (rSm 4))) (h_t_len : DunOk P w K mg base CT 1 "__len__" ["self"] (SpD K (ObO K CF CT) rTLen)) (h_m_rows : MethOk P w K mg base CT 1 "rows" ["self"] (spRowsN K CF CT))
    (h__law_row_is : DefOk P w K mg base 6 "_law_row_is" ["_law_row_here", "_law_p", "_law_due"] (SpD K (ObO K CF CT) rRowIs)) :
    FnOk P w K mg base CX0 7 f fd ["_law_t", "_law_p", "_law_width", "_law_due"] (SpD K (ObO K CF CT) rTableIs) := by
  subst hCT
  refine F.ok _law_table_is_sc (fun vs H Q E h => ?_) (fun cdv A outer s0 H vs Q E hr h => ?_)
  · obtain ⟨G, ds, d, e, as, ⟨p, wd, o, rfl, _⟩, k⟩ := h
    exact as.len
  · obtain ⟨G, ds, d, e, as, ⟨p, wd, o, rfl, ok, rfl⟩, k⟩ := h
    obtain ⟨v1, r1, rfl, a1, n1⟩ := atL_cons.mp as
    obtain ⟨v2, r2, rfl, a2, n2⟩ := atL_cons.mp n1
    obtain ⟨v3, r3, rfl, a3, n3⟩ := atL_cons.mp n2
    obtain ⟨v4, r4, rfl, a4, n4⟩ := atL_cons.mp n3
    obtain rfl := atL_nil.mp n4
    obtain rfl := at_int.mp a2
    obtain rfl := at_int.mp a3
    have hz := ok.len
    have ho := ok.2.2.2.1
    refine ⟨_, (pss_cons (ps_if (PW.pt (pw_or (pt_not (pt_val (pe_callB (call_isiK' K) (by rfl) B.isinstance (by decide +kernel) (pa_cons (pv 0) (pa_cons (pe_glob (v := .ref C_Table) rfl g_Table rfl) pa_nil))))) (pw_or1 (pt_not (pt_val (pe_callD h__law_same (hr.mono (by first | decide | exact Nat.le_refl _)) (pa_cons (pe_lst (pa_cons (pe_fldK K (pv 0)) (pa_cons (pe_fldK K (pv 0)) (pa_cons (pe_callB (call_lenOwn h_t_len (hr.mono (by first | decide | exact Nat.le_refl _))) (by rfl) B.len (by decide +kernel) (pa_cons (pv 0) pa_nil)) pa_nil)))) (pa_cons (pe_lst (pa_cons (pv 1) (pa_cons (pv 2) (pa_cons (pe_callB (call_lenK K) (by rfl) B.len (by decide +kernel) (pa_cons (pv 3) pa_nil)) pa_nil)))) pa_nil)))))))) (pss_one (ps_ret pe_bl)) pss_nil)
    (pss_cons (ps_set (i := 4) _law_table_is_sc.nd rfl (Or.inl rfl) (pe_methD0 cl h_m_rows (hr.mono (by first | decide | exact Nat.le_refl _)) (pv 0)))
    (pss_cons (ps_if (PW.pt (pw_or (pt_not (pt_val (pe_callB (call_isiK' K) (by rfl) B.isinstance (by decide +kernel) (pa_cons (pv 4) (pa_cons (pe_bltn (v := .ty "list") (by rfl) B.list (by decide +kernel) rfl) pa_nil))))) (pw_or1 (pt_cmpR op_ne (pe_callB (call_lenK K) (by rfl) B.len (by decide +kernel) (pa_cons (pv 4) pa_nil)) (pe_callB (call_lenK K) (by rfl) B.len (by decide +kernel) (pa_cons (pv 3) pa_nil)) (nomark _))))) (pss_one (ps_ret pe_bl)) pss_nil)
    (pss_one (ps_ret (pe_callB (cr_allK K rfl) (by rfl) B.all (by decide +kernel) (pa_cons (pe_lc (own := [("_law_row_here", 5), ("_law_held_here", 6)]) rfl _law_table_is_sc.nd (RZ.pi_zipA (by rfl) B.zip (pa_cons (pv 4) (pa_cons (pv 3) pa_nil))) (blkOk_by (N := _law_table_is_N) (sc := defScope _law_table_is_S) (by decide +kernel)) (fun _ _ _ _ _ => (pg_tupK (k := 2) K rfl (pgs_cons (pg_name (i := 5) _law_table_is_sc.nd rfl (Or.inl rfl)) (pgs_cons (pg_name (i := 6) _law_table_is_sc.nd rfl (Or.inl rfl)) pgs_nil)))) (fun _ _ _ _ _ => pts_nil) (fun _ _ _ _ _ => by exact (pe_callD h__law_row_is (hr.mono (by first | decide | exact Nat.le_refl _)) (pa_cons (pv 5) (pa_cons (pv 1) (pa_cons (pv 6) pa_nil)))))) pa_nil))))))), ?_⟩
    have h1 : ∀ {G'}, Ex G G' → ∀ x4 x5 x6, EvD K (ObO K CF C_Table) (tVar 0) [some v1, some (.int p), some (.int wd), some v4, x4, x5, x6] G' (.obj (.tab (tT p wd o))) := fun eg _ _ _ => ed_var rfl (a1.mono eg)
    have h4 : ∀ {G'}, Ex G G' → ∀ x4 x5 x6, EvD K (ObO K CF C_Table) (tVar 3) [some v1, some (.int p), some (.int wd), some v4, x4, x5, x6] G' (rsD o) := fun eg _ _ _ => ed_var rfl (a4.mono eg)
    have hlen4 : ∀ {G'}, Ex G G' → ∀ x4 x5 x6, Ev (tCB (fun xs H Q => ∃ p ys, xs = [V.ref p] ∧ (SqL K H p ys ∨ SqT K H p ys) ∧ Q (.int ys.length) H) (tCons (tVar 3) tNil)) [some v1, some (.int p), some (.int wd), some v4, x4, x5, x6] G' (.int (o.length : Nat)) := fun eg _ _ _ => ev_is (len_d (h4 eg _ _ _) rfl) (by show V.int ((o.map rD).length : Nat) = _; rw [List.length_map])
    refine q_skip (et_is (et_or (et_not (et_B (isi_tab c (h1 (Ex.refl _) _ _ _)))) fun _ => et_not (et_ofD (ed_call (d := .bl true) (eda_cons (d := .lst [.int p, .int wd, .int (o.length : Nat)]) (ed_lst (eda_cons (ed_of (ev_tprime c (h1 (Ex.refl _) _ _ _)) (at_int.mpr rfl)) (eda_cons (ed_of (ev_twidth c (h1 (Ex.refl _) _ _ _)) (at_int.mpr rfl)) (eda_cons (ed_of (ev_is (ev_tlen (by omega) (h1 (Ex.refl _) _ _ _)) (by rw [hz])) (at_int.mpr rfl)) eda_nil))) (by show 3 ≤ 100000; decide))
      (eda_cons (d := .lst [.int p, .int wd, .int (o.length : Nat)]) (ed_lst (eda_cons (ed_of (ev_var (i := 1) rfl) (at_int.mpr rfl)) (eda_cons (ed_of (ev_var (i := 2) rfl) (at_int.mpr rfl)) (eda_cons (ed_of (hlen4 (Ex.refl _) _ _ _) (at_int.mpr rfl)) eda_nil))) (by show 3 ≤ 100000; decide)) eda_nil)) ⟨.lst [.int p, .int wd, .int (o.length : Nat)], rfl, by show (0 : Nat) + 1 < 4; decide, rfl, rfl, rfl⟩))) rfl) e fun H2 l2 => ?_
    refine q_asgD (ed_trows (by omega) (h1 (Ex.refl _) _ _ _)) l2.e fun vr G3 H3 l3 ar => ?_
    have e3 : Ex G G3 := l2.g.trans l3.g
    show tSeq _ _ _ [some v1, some (.int p), some (.int wd), some v4, some vr, none, none] H3
    have hrw : EvD K (ObO K CF C_Table) (tVar 4) [some v1, some (.int p), some (.int wd), some v4, some vr, none, none] G3 (.lst ((tT p wd o).ls.map rwL)) := ed_var rfl ar
    have hl : ((tT p wd o).ls.map rwL) = o.map fun r => rwL (fR p r) := by show (o.map (fR p)).map rwL = _; rw [List.map_map]; rfl
    rw [hl] at hrw
    refine q_skip (et_is (et_or (et_not (et_B (isi_list (ot_ob c) hrw))) fun _ => et_test (ev_op (len_d hrw rfl) (hlen4 e3 _ _ _) (rv_ne rfl))) ?_) l3.e fun H4 l4 => ?_
    · show (!true || !decide (V.int ((o.map fun r => rwL (fR p r)).length : Nat) = V.int (o.length : Nat))) = false
      rw [List.length_map]
      simp
    · have src : Src K (ObO K CF C_Table) (RZ.iZipA K (tCons (tVar 4) (tCons (tVar 3) tNil))) [some v1, some (.int p), some (.int wd), some v4, some vr, none, none] G3 (zipD (o.map fun r => rwL (fR p r)) (o.map rD)) := src_zipL (eda_cons hrw (eda_cons (h4 e3 _ _ _) eda_nil))
      have h7 := ed_lc (K := K) (O := ObO K CF C_Table) (te := tCall (SpD K (ObO K CF C_Table) rRowIs) [] E0 (tCons (tVar 5) (tCons (tVar 1) (tCons (tVar 6) tNil)))) (tt := tYes) (vs := [5, 6]) (g := gTup K 2 (gCons (gName 5) (gCons (gName 6) gNil))) (fun _ => true) (fun _ => D.bl true) src (by simp [zipD]; omega) (fun i d x Gi Hi hd eg eh ad Q' hQ => ?_)
      · rw [all_true] at h7
        exact s_retD (ed_of (ev_is (ev_allD h7) (by rw [all_id])) (at_bl.mpr rfl)) l4.e (k.mono ((l2.trans l3).trans l4))
      · obtain ⟨r, hr', rfl⟩ := zip_get (γ := List PL) (δ := PL) hd
        have hm := List.mem_of_getElem? hr'
        refine tg_pair ad eh fun x1 x2 b1 b2 => ?_
        refine hQ _ Hi (Ex.refl _) rfl et_yes fun _ => ?_
        exact ed_call (eda_cons (ed_var (i := 5) rfl b1) (eda_cons (ed_of (ev_var (i := 1) rfl) (at_int.mpr rfl)) (eda_cons (ed_var (i := 6) rfl b2) eda_nil))) ⟨p, r, rfl, ok.row hm, (ok.2.2.2.2 r hm).2, rfl⟩
/-! ### _law_table -/
def rTable : List (D Ob) → D Ob → Prop := fun ds d => ∃ (p wd : Int) (o : List (List PL)), ds = [.int p, .int wd, rsD o] ∧ OkT p wd o ∧ d = .obj (.tab (tT p wd o))
def mkRw (p : Int) : D Ob → D Ob | .lst l => .lst (l.map (mkFil p)) | d => d
theorem mkRw_rD {p : Int} {r : List PL} : mkRw p (rD r) = rwL (fR p r) := by
  show D.lst ((r.map D.dic).map (mkFil p)) = D.lst ((fR p r).map fo)
  unfold fR
  rw [List.map_map, List.map_map]
  rfl
abbrev _law_table_S : Stmt := topS 118
abbrev _law_table_N : List Str := ["_law_p", "_law_width", "_law_rows", "_law_row_here"]
theorem _law_table_sc : FnScope _law_table_N ["_law_p", "_law_width", "_law_rows"] (defScope _law_table_S) := ⟨rfl, rfl, rfl, by decide +kernel, rfl, by decide +kernel, by decide +kernel⟩
theorem ok_table {f C_Table : Addr} {fd : FuncData} (F : Fun K "_law_table" "_law_table" _law_table_S f fd) (hCT : C_Table = CT) (h_Table : MakeOk P w K mg base C_Table 4 "Table" ["self", "prime", "width", "rows"] [] (spTInit K CF CT)) (h__law_filters : DefOk P w K mg base 7 "_law_filters" ["_law_p", "_law_row_here"] (SpD K (ObO K CF CT) rFils)) :
    FnOk P w K mg base CX0 8 f fd ["_law_p", "_law_width", "_law_rows"] (SpD K (ObO K CF CT) rTable) := by
  subst hCT
  refine F.ok _law_table_sc (fun vs H Q E h => ?_) (fun cdv A outer s0 H vs Q E hr h => ?_)
  · obtain ⟨G, ds, d, e, as, ⟨p, wd, o, rfl, _⟩, k⟩ := h
    exact as.len
  · obtain ⟨G, ds, d, e, as, ⟨p, wd, o, rfl, ok, rfl⟩, k⟩ := h
    obtain ⟨v1, r1, rfl, a1, n1⟩ := atL_cons.mp as
    obtain ⟨v2, r2, rfl, a2, n2⟩ := atL_cons.mp n1
    obtain ⟨v3, r3, rfl, a3, n3⟩ := atL_cons.mp n2
    obtain rfl := atL_nil.mp n3
    obtain rfl := at_int.mp a1
    obtain rfl := at_int.mp a2
    have ho := ok.2.2.2.1
    refine ⟨_, (pss_one (ps_ret (pe_makeD h_Table (hr.mono (by first | decide | exact Nat.le_refl _)) (pa_cons (pv 0) (pa_cons (pv 1) (pa_cons (pe_lc (own := [("_law_row_here", 3)]) rfl _law_table_sc.nd (pi_list (pv 2)) (blkOk_by (N := _law_table_N) (sc := defScope _law_table_S) (by decide +kernel)) (fun _ _ _ _ _ => (pg_name (i := 3) _law_table_sc.nd rfl (Or.inl rfl))) (fun _ _ _ _ _ => pts_nil) (fun _ _ _ _ _ => by exact (pe_callD h__law_filters (hr.mono (by first | decide | exact Nat.le_refl _)) (pa_cons (pv 0) (pa_cons (pv 3) pa_nil))))) pa_nil)))))), ?_⟩
    have h7 := ed_lc (K := K) (O := ObO K CF C_Table) (G := G) (te := tCall (SpD K (ObO K CF C_Table) rFils) [] E0 (tCons (tVar 0) (tCons (tVar 3) tNil))) (tt := tYes) (vs := [3]) (g := gName 3) (σ := [some (.int p), some (.int wd), some v3, none]) (fun _ => true) (mkRw p) (src_list (ed_var (i := 2) rfl a3)) (by rw [List.length_map]; omega) (fun i d x Gi Hi hd eg eh ad Q' hQ => ?_)
    · have e8 : (((o.map rD).filter fun _ => true).map (mkRw p)) = ((tT p wd o).ls).map rwL := by
        rw [List.filter_eq_self.mpr (fun _ _ => rfl)]
        show _ = (o.map (fR p)).map rwL
        rw [List.map_map, List.map_map]
        exact List.map_congr_left fun r _ => mkRw_rD
      rw [e8] at h7
      have g := ok.good
      have h9 := ed_tmake (K := K) (CF := CF) (CT := C_Table) (E := E0) (p := p) (wd := wd) (eda_cons (ed_of (ev_var (i := 0) rfl) (at_int.mpr rfl)) (eda_cons (ed_of (ev_var (i := 1) rfl) (at_int.mpr rfl)) (eda_cons h7 eda_nil))) g.1 g.2.1 g.2.2.1 (rows_rwL g.2.2.2) (by rw [List.length_map, ok.len]; omega)
      have e9 : (((tT p wd o).ls).map fun l => (true, l)).map (fun r : Rw => r.2) = (tT p wd o).ls := by rw [List.map_map]; exact List.map_id' _
      rw [e9] at h9
      exact s_retD h9 e k
    · rw [List.getElem?_map] at hd
      obtain ⟨r, hr', rfl⟩ := Option.map_eq_some_iff.mp hd
      have hm := List.mem_of_getElem? hr'
      refine hQ _ Hi (Ex.refl _) rfl et_yes fun _ => ?_
      rw [mkRw_rD]
      exact ed_call (eda_cons (ed_of (ev_var (i := 0) rfl) (at_int.mpr rfl)) (eda_cons (ed_var (i := 3) rfl ad) eda_nil)) ⟨p, r, rfl, ok.1, ok.row hm, (ok.2.2.2.2 r hm).2, rfl⟩
/-! ### _law_told_rows_right -/
theorem lkr_refs {G0 G : Hp} : ∀ {ls : List (List FilS)} {vs : List V}, AtL K (LkR K CF CT G0) G (ls.map D.obj) vs → ∀ v ∈ vs, ∃ x us, v = .ref x ∧ G x = some (.lst us) ∧ G0 x = none ∧ us.length ≤ (ls.map List.length).sum ∧ ∀ u ∈ us, ∃ y, u = .ref y ∧ ∃ dx fs, G y = some (.ins CF dx fs)
  | [], vs, h, v, hv => by rw [atL_nil.mp h] at hv; cases hv
  | l :: r, vs, h, v, hv => by
    obtain ⟨v', u, rfl, a, n⟩ := atL_cons.mp h
    obtain ⟨x, rfl, us, h1, h2, h3⟩ := at_obj.mp a
    rcases List.mem_cons.mp hv with rfl | hv
    · refine ⟨x, us, rfl, h1, h3, by rw [h2.len, List.length_map, List.map_cons, List.sum_cons]; omega, fun u hu => ?_⟩
      obtain ⟨i, hi, rfl⟩ := List.mem_iff_getElem.mp hu
      obtain ⟨d, hd, ad⟩ := h2.get (List.getElem?_eq_getElem hi)
      rw [List.getElem?_map] at hd
      obtain ⟨f, _, rfl⟩ := Option.map_eq_some_iff.mp hd
      obtain ⟨y, hy, dx, tp, oo, ts, kd, g1, _⟩ := at_obj.mp ad
      exact ⟨y, hy, dx, _, g1⟩
    · obtain ⟨x', us', q1, q2, q3, q4, q5⟩ := lkr_refs n v hv
      exact ⟨x', us', q1, q2, q3, by rw [List.map_cons, List.sum_cons]; omega, q5⟩
def rToldR : List (D Ob) → D Ob → Prop := rTableIs
end
end SR
set_option maxRecDepth 100000
set_option maxHeartbeats 4000000
namespace SR
open PySem PySem.Spec PyProof.Rows L2 Evl
theorem sum_le {l : List Nat} {b : Nat} (h : ∀ x ∈ l, x ≤ b) : l.sum ≤ l.length * b := by
  induction l with
  | nil => simp
  | cons a r ih =>
    have h1 := h a (List.mem_cons_self ..)
    have h2 := ih fun x hx => h x (List.mem_cons_of_mem _ hx)
    rw [List.sum_cons, List.length_cons, Nat.succ_mul]
    omega
section
variable {P : Program} {w : World} {K : PySem.W.Frag} {mg : Str → Option Value} {base : Heap} {CF CT : Addr}
abbrev _law_told_rows_right_S : Stmt := topS 119
abbrev _law_told_rows_right_N : List Str := ["_law_t", "_law_p", "_law_width", "_law_due", "_law_told", "_law_row_here", "_law_walked", "_law_held_here"]
theorem _law_told_rows_right_sc : FnScope _law_told_rows_right_N ["_law_t", "_law_p", "_law_width", "_law_due"] (defScope _law_told_rows_right_S) := ⟨rfl, rfl, rfl, by decide +kernel, rfl, by decide +kernel, by decide +kernel⟩
theorem ok_told_rows {f : Addr} {fd : FuncData} (F : Fun K "_law_told_rows_right" "_law_told_rows_right" _law_told_rows_right_S f fd) (B : Bi mg) (c : TabC K CF CT) (cl : Cls K CT)
    (h_t_iter : IterOk P w K mg CT 1 (spIt K (ObO K CF CT) rTIter)) (h_m_rows : MethOk P w K mg base CT 1 "rows" ["self"] (spRowsN K CF CT)) (h__law_row_is : DefOk P w K mg base 6 "_law_row_is" ["_law_row_here", "_law_p", "_law_due"] (SpD K (ObO K CF CT) rRowIs))
    (h__law_table_is : DefOk P w K mg base 7 "_law_table_is" ["_law_t", "_law_p", "_law_width", "_law_due"] (SpD K (ObO K CF CT) rTableIs)) :
    FnOk P w K mg base CX0 8 f fd ["_law_t", "_law_p", "_law_width", "_law_due"] (SpD K (ObO K CF CT) rTableIs) := by
  refine F.ok _law_told_rows_right_sc (fun vs H Q E h => ?_) (fun cdv A outer s0 H vs Q E hr h => ?_)
  · obtain ⟨G, ds, d, e, as, ⟨p, wd, o, rfl, _⟩, k⟩ := h
    exact as.len
  · obtain ⟨G, ds, d, e, as, ⟨p, wd, o, rfl, ok, rfl⟩, k⟩ := h
    obtain ⟨v1, r1, rfl, a1, n1⟩ := atL_cons.mp as
    obtain ⟨v2, r2, rfl, a2, n2⟩ := atL_cons.mp n1
    obtain ⟨v3, r3, rfl, a3, n3⟩ := atL_cons.mp n2
    obtain ⟨v4, r4, rfl, a4, n4⟩ := atL_cons.mp n3
    obtain rfl := atL_nil.mp n4
    obtain rfl := at_int.mp a2
    obtain rfl := at_int.mp a3
    have hz := ok.len
    have ho := ok.2.2.2.1
    have hsum : (((tT p wd o).ls).map List.length).sum ≤ 30000 := by
      have h1 : ∀ x ∈ ((tT p wd o).ls).map List.length, x ≤ 20 := fun x hx => by
        obtain ⟨l, hl, rfl⟩ := List.mem_map.mp hx
        have h2 := (ok.good.2.2.2 l hl).1
        have h3 : (tT p wd o).w = wd := rfl
        have h4 := ok.2.2.1
        omega
      have h2 := sum_le h1
      rw [List.length_map, hz] at h2
      omega
    refine ⟨_, (pss_cons (ps_set (i := 4) _law_told_rows_right_sc.nd rfl (Or.inl rfl) (pe_methD0 cl h_m_rows (hr.mono (by first | decide | exact Nat.le_refl _)) (pv 0)))
    (pss_cons (ps_expr (pe_bm PySem.F.plainAttrs_list PySem.F.slot_list_append PySem.F.type_list_append mt_append (pv 4) (pa_cons (pe_lst pa_nil) pa_nil)))
    (pss_cons (ps_for PassesOwn.never rfl (pi_list (pv 4)) (pg_name (i := 5) _law_told_rows_right_sc.nd rfl (Or.inl rfl)) (pss_one (ps_expr (pe_bm PySem.F.plainAttrs_list PySem.F.slot_list_append PySem.F.type_list_append mt_append (pv 5) (pa_cons pe_non pa_nil)))))
    (pss_cons (ps_setLc (i := 6) (own := [("_law_row_here", 5)]) rfl _law_told_rows_right_sc.nd rfl rfl (sw_true rfl rfl rfl (by decide +kernel)) (pi_own h_t_iter (hr.mono (by first | decide | exact Nat.le_refl _)) (pv 0)) (blkOk_by (N := _law_told_rows_right_N) (sc := defScope _law_told_rows_right_S) (by decide +kernel)) (fun _ _ _ _ _ => (pg_name (i := 5) _law_told_rows_right_sc.nd rfl (Or.inl rfl))) (fun _ _ _ _ _ => pts_nil) (fun _ _ _ _ _ => by exact (pv 5)))
    (pss_cons (ps_if (PW.pt (pw_or (pt_cmpR op_ne (pe_callB (call_lenK K) (by rfl) B.len (by decide +kernel) (pa_cons (pv 6) pa_nil)) (pe_callB (call_lenK K) (by rfl) B.len (by decide +kernel) (pa_cons (pv 3) pa_nil)) (nomark _)) (pw_or1 (pt_not (pt_val (pe_callB (cr_allK K rfl) (by rfl) B.all (by decide +kernel) (pa_cons (pe_lc (own := [("_law_row_here", 5)]) rfl _law_told_rows_right_sc.nd (pi_list (pv 6)) (blkOk_by (N := _law_told_rows_right_N) (sc := defScope _law_told_rows_right_S) (by decide +kernel)) (fun _ _ _ _ _ => (pg_name (i := 5) _law_told_rows_right_sc.nd rfl (Or.inl rfl))) (fun _ _ _ _ _ => pts_nil) (fun _ _ _ _ _ => by exact (pe_callB (call_isiK' K) (by rfl) B.isinstance (by decide +kernel) (pa_cons (pv 5) (pa_cons (pe_bltn (v := .ty "tuple") (by rfl) B.tuple (by decide +kernel) rfl) pa_nil))))) pa_nil))))))) (pss_one (ps_ret pe_bl)) pss_nil)
    (pss_cons (ps_if (pt_not (pt_val (pe_callB (cr_allK K rfl) (by rfl) B.all (by decide +kernel) (pa_cons (pe_lc (own := [("_law_row_here", 5), ("_law_held_here", 7)]) rfl _law_told_rows_right_sc.nd (RZ.pi_zipA (by rfl) B.zip (pa_cons (pv 6) (pa_cons (pv 3) pa_nil))) (blkOk_by (N := _law_told_rows_right_N) (sc := defScope _law_told_rows_right_S) (by decide +kernel)) (fun _ _ _ _ _ => (pg_tupK (k := 2) K rfl (pgs_cons (pg_name (i := 5) _law_told_rows_right_sc.nd rfl (Or.inl rfl)) (pgs_cons (pg_name (i := 7) _law_told_rows_right_sc.nd rfl (Or.inl rfl)) pgs_nil)))) (fun _ _ _ _ _ => pts_nil) (fun _ _ _ _ _ => by exact (pe_callD h__law_row_is (hr.mono (by first | decide | exact Nat.le_refl _)) (pa_cons (pe_callTy (call_lstK K) (by rfl) B.list (by decide +kernel) (pa_cons (pv 5) pa_nil)) (pa_cons (pv 1) (pa_cons (pv 7) pa_nil)))))) pa_nil)))) (pss_one (ps_ret pe_bl)) pss_nil)
    (pss_one (ps_ret (pe_callD h__law_table_is (hr.mono (by first | decide | exact Nat.le_refl _)) (pa_cons (pv 0) (pa_cons (pv 1) (pa_cons (pv 2) (pa_cons (pv 3) pa_nil))))))))))))), ?_⟩
    have h1 : ∀ {G'}, Ex G G' → ∀ x4 x5 x6 x7, EvD K (ObO K CF CT) (tVar 0) [some v1, some (.int p), some (.int wd), some v4, x4, x5, x6, x7] G' (.obj (.tab (tT p wd o))) := fun eg _ _ _ _ => ed_var rfl (a1.mono eg)
    have h4 : ∀ {G'}, Ex G G' → ∀ x4 x5 x6 x7, EvD K (ObO K CF CT) (tVar 3) [some v1, some (.int p), some (.int wd), some v4, x4, x5, x6, x7] G' (rsD o) := fun eg _ _ _ _ => ed_var rfl (a4.mono eg)
    refine x_trows (by omega) (h1 (Ex.refl _) none none none none) H e _ fun la G2 H2 hla l2 al => ?_
    obtain ⟨la', us, hq, hu2, au⟩ := at_lst.mp al
    obtain rfl := V.ref.inj hq
    have ul : us.length ≤ 1000 := by rw [au.len, List.length_map]; omega
    have hrefs := lkr_refs (K := K) (CF := CF) (CT := CT) au
    have gla : G la = none := none_of_ex e hla
    have hu : H2 la = some (.lst us) := l2.e _ _ hu2
    have L2 := l2.drop
    have hrow0 : ∀ v ∈ us, ∃ x ws, v = .ref x ∧ H2 x = some (.lst ws) ∧ H x = none ∧ x ≠ la ∧ ws.length ≤ 30000 := fun v hv => by
      obtain ⟨x, ws, rfl, g1, g2, g3, g4⟩ := hrefs v hv
      refine ⟨x, ws, rfl, l2.e _ _ g1, g2, fun z => ?_, by omega⟩
      subst z
      rw [hu2] at g1
      have e1 := HO.lst.inj (Option.some.inj g1)
      subst e1
      obtain ⟨y, hy, dx, fs, gy⟩ := g4 _ hv
      obtain rfl := V.ref.inj hy
      rw [hu2] at gy
      cases gy
    show tSeq _ _ _ [some v1, some (.int p), some (.int wd), some v4, some (.ref la), none, none, none] H2
    refine q_appL (K := K) (l := la) (xs := us) (ys := []) hu (ev_var (i := 4) rfl) (fun H1 e1 Q q => ⟨by show 0 ≤ sizeLine; exact Nat.zero_le _, fun p0 hp0 => q p0 (upd H1 p0 (.lst [])) hp0 (Ex.new hp0) upd_same⟩) (by omega) fun n1 H3 hn1 e3 hn3 => ?_
    have n1la : n1 ≠ la := by intro z; subst z; rw [hu] at hn1; cases hn1
    have L3 : Le G H G (upd H3 la (.lst (us ++ [.ref n1]))) := (L2.trans (Le.heap L2.e e3)).mut hla gla
    have gn1 : G n1 = none := none_of_ex L2.e hn1
    have hrow1 : ∀ v ∈ us ++ [V.ref n1], ∃ x, v = .ref x ∧ G x = none ∧ x ≠ la ∧ H x = none ∧ ∃ ws, (upd H3 la (.lst (us ++ [.ref n1]))) x = some (.lst ws) ∧ ws.length ≤ 30000 + 0 := fun v hv => by
      rcases List.mem_append.mp hv with hv | hv
      · obtain ⟨x, ws, rfl, g1, g2, g3, g4⟩ := hrow0 v hv
        exact ⟨x, rfl, none_of_ex e g2, g3, g2, ws, by rw [upd_ne g3]; exact e3 _ _ g1, by omega⟩
      · rw [List.mem_singleton.mp hv]
        exact ⟨n1, rfl, gn1, n1la, fresh_back L2.h hn1, [], by rw [upd_ne n1la]; exact hn3, Nat.zero_le _⟩
    generalize hH4 : upd H3 la (.lst (us ++ [.ref n1])) = H4 at L3 hrow1
    have hla4 : H4 la = some (.lst (us ++ [.ref n1])) := by rw [← hH4]; exact upd_same
    have hu' := hu_of hr
    refine q_forL (K := K) (a := la) (xs := us ++ [.ref n1]) (ev_var (i := 4) rfl) (sq_of hla4) (fun i σ' H' => (∃ x5, σ' = [some v1, some (.int p), some (.int wd), some v4, some (.ref la), x5, none, none]) ∧ Le G H G H' ∧ H' la = some (.lst (us ++ [.ref n1])) ∧ ∀ v ∈ us ++ [V.ref n1], ∃ x, v = .ref x ∧ G x = none ∧ x ≠ la ∧ H x = none ∧ ∃ ws, H' x = some (.lst ws) ∧ ws.length ≤ 30000 + i) (fun H1 e1 => ⟨⟨_, rfl⟩, L3.trans (Le.heap L3.e e1), e1 _ _ hla4, fun v hv => ?_⟩) (fun i σ' H' hi pv => sq_of pv.2.2.1) (fun i x σ' H' hx pv => ?_) (fun σ' H' pv => ?_)
    · obtain ⟨x, q1, q2, q3, q4, ws, q5, q6⟩ := hrow1 v hv
      exact ⟨x, q1, q2, q3, q4, ws, e1 _ _ q5, q6⟩
    · obtain ⟨⟨x5, rfl⟩, LL, hl, hrs⟩ := pv
      obtain ⟨y, rfl, q2, q3, q4, ws, q5, q6⟩ := hrs x (List.mem_of_getElem? hx)
      have hi1 : i < us.length + 1 := by have := (List.getElem?_eq_some_iff.mp hx).1; simpa using this
      show tDrop (tBM K "list" rAppend (tVar 5) (tCons (tC .non) tNil)) _ [some v1, some (.int p), some (.int wd), some v4, some (.ref la), some (.ref y), none, none] H'
      refine s_app (K := K) (l := y) q5 (ev_var (i := 5) rfl) ev_c (by omega) fun H1 e1 => ?_
      refine ⟨⟨_, rfl⟩, (LL.trans (Le.heap LL.e e1)).mut q4 q2, by rw [upd_ne (Ne.symm q3)]; exact e1 _ _ hl, fun v hv => ?_⟩
      obtain ⟨z, p1, p2, p3, p4, zs, p5, p6⟩ := hrs v hv
      by_cases hzy : z = y
      · subst hzy
        exact ⟨z, p1, p2, p3, p4, _, upd_same, by rw [List.length_append]; show ws.length + 1 ≤ _; omega⟩
      · exact ⟨z, p1, p2, p3, p4, zs, by rw [upd_ne hzy]; exact e1 _ _ p5, by omega⟩
    · obtain ⟨⟨x5, rfl⟩, LL, hl, hrs⟩ := pv
      have hw := ed_lc (K := K) (O := ObO K CF CT) (G := G) (te := tVar 5) (tt := tYes) (vs := [5]) (g := gName 5) (σ := [some v1, some (.int p), some (.int wd), some v4, some (.ref la), x5, none, none]) (fun _ => true) (fun d => d) (src_titer (n := s0.heap.objs.size) (h1 (Ex.refl _) _ _ _ _)) (by rw [List.length_map]; omega) (fun i d x Gi Hi hd eg eh ad Q' hQ => hQ _ Hi (Ex.refl _) rfl et_yes fun _ => ed_var (i := 5) rfl ad)
      have e8 : ((((tT p wd o).ls.map rwD).filter fun _ => true).map fun d => d) = o.map fun r => rwD (fR p r) := by
        rw [List.filter_eq_self.mpr (fun _ _ => rfl), List.map_id']
        show (o.map (fR p)).map rwD = _
        rw [List.map_map]
        rfl
      rw [e8] at hw
      refine q_asgD hw LL.e fun vw G5 H5 l5 aw => ?_
      have e5 := l5.g
      show tSeq _ _ _ [some v1, some (.int p), some (.int wd), some v4, some (.ref la), x5, some vw, none] H5
      have hwv : EvD K (ObO K CF CT) (tVar 6) [some v1, some (.int p), some (.int wd), some v4, some (.ref la), x5, some vw, none] G5 (.lst (o.map fun r => rwD (fR p r))) := ed_var rfl aw
      have hlen4 : Ev (tCB (fun xs H Q => ∃ p ys, xs = [V.ref p] ∧ (SqL K H p ys ∨ SqT K H p ys) ∧ Q (.int ys.length) H) (tCons (tVar 3) tNil)) [some v1, some (.int p), some (.int wd), some v4, some (.ref la), x5, some vw, none] G5 (.int (o.length : Nat)) := ev_is (len_d (h4 e5 _ _ _ _) rfl) (by show V.int ((o.map rD).length : Nat) = _; rw [List.length_map])
      refine q_skip (et_is (et_or (et_test (ev_op (len_d hwv rfl) hlen4 (rv_ne rfl))) fun _ => et_not (et_B (ev_is (ev_allD (K := K) (O := ObO K CF CT) (bs := o.map fun _ => true) ?_) (by rw [all_id])))) ?_) l5.e fun H6 l6 => ?_
      · have h7 := ed_lc (K := K) (O := ObO K CF CT) (G := G5) (te := tCB (rIsi K) (tCons (tVar 5) (tCons (tC (.ty "tuple")) tNil))) (tt := tYes) (vs := [5]) (g := gName 5) (σ := [some v1, some (.int p), some (.int wd), some v4, some (.ref la), x5, some vw, none]) (fun _ => true) (fun _ => D.bl true) (src_list hwv) (by rw [List.length_map]; omega) (fun i d x Gi Hi hd eg eh ad Q' hQ => ?_)
        · rw [all_true] at h7
          have e9 : ((o.map fun r => rwD (fR p r)).map fun _ => true) = o.map fun _ => true := by rw [List.map_map]; rfl
          rw [e9] at h7
          exact h7
        · rw [List.getElem?_map] at hd
          obtain ⟨r, hr', rfl⟩ := Option.map_eq_some_iff.mp hd
          exact hQ _ Hi (Ex.refl _) rfl et_yes fun _ => ed_of (isi_tuple (ot_ob c) (ed_var (i := 5) rfl ad)) (at_bl.mpr rfl)
      · show (!decide (V.int ((o.map fun r => rwD (fR p r)).length : Nat) = V.int (o.length : Nat)) || !true) = false
        rw [List.length_map]
        simp
      · have src : Src K (ObO K CF CT) (RZ.iZipA K (tCons (tVar 6) (tCons (tVar 3) tNil))) [some v1, some (.int p), some (.int wd), some v4, some (.ref la), x5, some vw, none] G5 (zipD (o.map fun r => rwD (fR p r)) (o.map rD)) := src_zipL (eda_cons hwv (eda_cons (h4 e5 _ _ _ _) eda_nil))
        have h7 := ed_lc (K := K) (O := ObO K CF CT) (te := tCall (SpD K (ObO K CF CT) rRowIs) [] E0 (tCons (tCB (rListOf K) (tCons (tVar 5) tNil)) (tCons (tVar 1) (tCons (tVar 7) tNil)))) (tt := tYes) (vs := [5, 7]) (g := gTup K 2 (gCons (gName 5) (gCons (gName 7) gNil))) (fun _ => true) (fun _ => D.bl true) src (by simp [zipD]; omega) (fun i d x Gi Hi hd eg eh ad Q' hQ => ?_)
        · rw [all_true] at h7
          refine q_skip (et_is (et_not (et_B (ev_is (ev_allD h7) (by rw [all_id])))) rfl) l6.e fun H7 l7 => ?_
          have L9 := (LL.trans l5).trans (l6.trans l7)
          exact s_retD (ed_call (d := .bl true) (eda_cons (h1 e5 _ _ _ _) (eda_cons (ed_of (ev_var (i := 1) rfl) (at_int.mpr rfl)) (eda_cons (ed_of (ev_var (i := 2) rfl) (at_int.mpr rfl)) (eda_cons (h4 e5 _ _ _ _) eda_nil)))) ⟨p, wd, o, rfl, ok, rfl⟩) l7.e (k.mono L9)
        · obtain ⟨r, hr', rfl⟩ := zip_get (γ := List PL) (δ := PL) hd
          have hm := List.mem_of_getElem? hr'
          refine tg_pair ad eh fun x1 x2 b1 b2 => ?_
          refine hQ _ Hi (Ex.refl _) rfl et_yes fun _ => ?_
          exact ed_call (eda_cons (d := rwL (fR p r)) (ed_listT (ed_var (i := 5) rfl b1)) (eda_cons (ed_of (ev_var (i := 1) rfl) (at_int.mpr rfl)) (eda_cons (ed_var (i := 7) rfl b2) eda_nil))) ⟨p, r, rfl, ok.row hm, (ok.2.2.2.2 r hm).2, rfl⟩
end
end SR
set_option maxRecDepth 100000
set_option maxHeartbeats 4000000
/-! Own operators over data of several kinds of objects. -/
namespace SR
open PySem PySem.Spec PyProof.Rows L2 Evl
section
variable {ω : Type} {K : PySem.W.Frag} {O : OI ω} {C : Addr} {G H : Hp} {ta tb te : TE} {σ : L2.St} {w u : ω} {d : D ω} {R : List (D ω) → D ω → Prop} {T : ω → Addr}
theorem bin_goI {vs : List V} {Q : VK} (hi : InsC O T) (hw : T w = C) (hu : T u = C) (e : Ex G H) (as : AtL K O G [.obj w, .obj u] vs) (r : R [.obj w, .obj u] d) (k : RetG K O d G H Q) : bin2 (rBinOwn C (SpD K O R) E0) H Q vs := by
  obtain ⟨v1, r1, rfl, a1, n1⟩ := atL_cons.mp as
  obtain ⟨v2, r2, rfl, a2, n2⟩ := atL_cons.mp n1
  obtain rfl := atL_nil.mp n2
  obtain ⟨x, rfl, h1⟩ := at_obj.mp a1
  obtain ⟨y, rfl, h2⟩ := at_obj.mp a2
  obtain ⟨dx, fs, g1⟩ := hi _ _ _ h1
  obtain ⟨dy, gs, g2⟩ := hi _ _ _ h2
  rw [hw] at g1
  rw [hu] at g2
  exact ⟨x, dx, _, y, dy, _, rfl, rfl, e _ _ g1, e _ _ g2, G, [.obj w, .obj u], d, e, as, r, k⟩
theorem ed_binI (hi : InsC O T) (hw : T w = C) (hu : T u = C) (h1 : EvD K O ta σ G (.obj w)) (h2 : EvD K O tb σ G (.obj u)) (r : R [.obj w, .obj u] d) : EvD K O (tOp (rBinOwn C (SpD K O R) E0) ta tb) σ G d := fun H1 e Q k =>
  (eda_cons h1 (eda_cons h2 eda_nil)) H1 e (fun vs H2 => bin2 (rBinOwn C (SpD K O R) E0) H2 Q vs) fun vs G2 H2 l as => bin_goI hi hw hu l.e as r (k.mono l)
theorem q_augO {i : Nat} {v : V} {De : Ends} {tz : TS} (hi : InsC O T) (hw : T w = C) (hu : T u = C) (hv : σ[i]? = some (some v)) (a : At K O G (.obj w) v) (h2 : EvD K O tb σ G (.obj u)) (r : R [.obj w, .obj u] d) (e : Ex G H) (k : ∀ z G2 H2, Le G H G2 H2 → At K O G2 d z → tz De (σ.set i (some z)) H2) :
    tSeq (tAug i tb (rBinOwn C (SpD K O R) E0)) tz De σ H := ⟨v, hv, h2 H e _ fun y G2 H2 l a2 => bin_goI (vs := [v, y]) hi hw hu l.e (atL_cons.mpr ⟨_, _, rfl, a.mono l.g, AtL.one a2⟩) r fun z G3 H3 l3 a3 => k z G3 H3 (l.trans l3) a3⟩
theorem ev_eqI {b : Bool} {Ty : ω → Value} (hi : InsC O T) (hw : T w = C) (hT : ∀ H a w, O.at_ H a w → TyX K H (.ref a) (Ty w)) (hn : PySem.W.notFirst K C (tyD Ty d) = true) (h : EvD K O ta σ G (.obj w)) (h2 : EvD K O tb σ G d) (r : R [.obj w, d] (.bl b)) : Ev (tOp (rEqOwn K C (SpD K O R) E0) ta tb) σ G (.bl b) := fun H1 e Q q =>
  h H1 e _ fun v G2 H2 l a => h2 H2 (e.trans l.h) _ fun u G3 H3 l3 a3 => by
    obtain ⟨x, rfl, h1⟩ := at_obj.mp a
    obtain ⟨dx, fs, g1⟩ := hi _ _ _ h1
    rw [hw] at g1
    have e2 : Ex G2 H3 := l.e.trans l3.h
    exact ⟨x, dx, _, _, rfl, e2 _ _ g1, ty_of hT (a3.mono l3.e), hn, hun G3 G2, [.obj w, d], .bl b, hun_ex l3.e e2, atL_cons.mpr ⟨_, _, rfl, a.mono (hun_r l3.e e2), AtL.one (a3.mono hun_l)⟩, r, fun v G4 H4 l4 a4 => ⟨b, at_bl.mp a4, q H4 ((l.h.trans l3.h).trans l4.h)⟩⟩
theorem ev_neI {b : Bool} {Ty : ω → Value} (hi : InsC O T) (hw : T w = C) (hT : ∀ H a w, O.at_ H a w → TyX K H (.ref a) (Ty w)) (hn : PySem.W.notFirst K C (tyD Ty d) = true) (h : EvD K O ta σ G (.obj w)) (h2 : EvD K O tb σ G d) (r : R [.obj w, d] (.bl b)) : Ev (tOp (rNeOwn K C (SpD K O R) E0) ta tb) σ G (.bl (!b)) := fun H1 e Q q =>
  h H1 e _ fun v G2 H2 l a => h2 H2 (e.trans l.h) _ fun u G3 H3 l3 a3 => by
    obtain ⟨x, rfl, h1⟩ := at_obj.mp a
    obtain ⟨dx, fs, g1⟩ := hi _ _ _ h1
    rw [hw] at g1
    have e2 : Ex G2 H3 := l.e.trans l3.h
    exact ⟨x, dx, _, _, rfl, e2 _ _ g1, ty_of hT (a3.mono l3.e), hn, hun G3 G2, [.obj w, d], .bl b, hun_ex l3.e e2, atL_cons.mpr ⟨_, _, rfl, a.mono (hun_r l3.e e2), AtL.one (a3.mono hun_l)⟩, r, fun v G4 H4 l4 a4 => ⟨b, at_bl.mp a4, q H4 ((l.h.trans l3.h).trans l4.h)⟩⟩
end
/-- xs != [] -/
def rNeNilL (K : PySem.W.Frag) : R2 := fun x y H Q => ∃ a b xs, x = .ref a ∧ y = .ref b ∧ SqL K H a xs ∧ H b = some (.lst []) ∧ Q (.bl (!xs.isEmpty)) H
theorem op_neNilL {X : Cx} (hu : X.A.units < cLine) : OpR X (compareOp .NotEq) (rNeNilL X.K) := by
  intro pins s σ H x y v u Q I rx ry h
  obtain ⟨a, b, xs, rfl, rfl, ha, hb, q⟩ := h
  cases (show v = Value.ref a from rx)
  cases (show u = Value.ref b from ry)
  obtain ⟨us, r1, p1, _⟩ := I.list ha
  obtain ⟨ws, r2, p2, _⟩ := I.list (sq_of (K := X.K) hb)
  have hw : ws = [] := by cases r2; rfl
  subst hw
  have l1 := r1.length
  show wpAny (model X.prog X.w) X.A (richCompare .NotEq (.ref a) (.ref b)) (EP X pins σ Q) X.xe s
  cases hx : xs with
  | nil =>
    rw [hx] at q l1
    refine SeqAt.RcNeAt.lists (e := fun _ => true) p1.isList p2.isList (by simp [← l1]) hu (fun j h1 h2 => absurd h2 (by simp)) X.prog X.w X.xe _ ?_
    have : (!(List.range us.toArray.size).all fun _ => true) = false := by simp
    rw [this]
    exact ⟨.bl false, H, I, rfl, q⟩
  | cons z zs =>
    rw [hx] at q l1
    exact SeqAt.RcNeAt.lists_lengths p1.isList p2.isList (by simp [← l1]) hu X.prog X.w X.xe _ ⟨.bl true, H, I, rfl, q⟩
theorem ev_neNilL {ω : Type} {K : PySem.W.Frag} {O : OI ω} {G : Hp} {ta : TE} {σ : L2.St} {l : List (D ω)} (h : EvD K O ta σ G (.lst l)) : Ev (tOp (rNeNilL K) ta (tLst tNil)) σ G (.bl (!l.isEmpty)) := fun H1 e Q q =>
  h H1 e _ fun v G2 H2 le a => ⟨by show 0 ≤ sizeLine; exact Nat.zero_le _, fun p hp => by
    obtain ⟨x, vs, rfl, hs, as⟩ := at_lst.mp a
    refine ⟨x, p, vs, rfl, rfl, sq_of ((Ex.new hp) _ _ (le.e _ _ hs)), upd_same, ?_⟩
    have h1 := as.len
    have e2 : (!vs.isEmpty) = !l.isEmpty := by cases vs <;> cases l <;> first | rfl | simp at h1
    rw [e2]
    exact q _ (le.h.trans (Ex.new hp))⟩
/-! ### sorted dicts -/
theorem sub_back {α : Type} [BEq α] [LawfulBEq α] : ∀ {l m : List α}, l.Nodup → (∀ x ∈ l, x ∈ m) → m.length ≤ l.length → ∀ x ∈ m, x ∈ l
  | [], m, _, _, hl, x, hx => by
    have : m = [] := List.length_eq_zero_iff.mp (Nat.le_zero.mp hl)
    rw [this] at hx
    exact hx
  | a :: r, m, hn, hs, hl, x, hx => by
    rw [List.nodup_cons] at hn
    have ha := hs a (List.mem_cons_self ..)
    have h1 : (m.erase a).length ≤ r.length := by
      have := List.length_erase_of_mem ha
      simp only [List.length_cons] at hl
      omega
    by_cases hxa : x = a
    · rw [hxa]; exact List.mem_cons_self ..
    · refine List.mem_cons_of_mem _ (sub_back hn.2 (fun y hy => ?_) h1 x ((List.mem_erase_of_ne hxa).mpr hx))
      have hya : y ≠ a := fun z => hn.1 (z ▸ hy)
      exact (List.mem_erase_of_ne hya).mpr (hs y (List.mem_cons_of_mem _ hy))
theorem dicEq_nrm {p : Int} {a b : List (Int × Int)} (ha : coll p a = a) (hb : coll p b = b) : dicEq a b = decide (a = b) := by
  have na : (a.map (·.1)).Nodup := by rw [← ha]; exact coll_nd
  have nb : (b.map (·.1)).Nodup := by rw [← hb]; exact coll_nd
  by_cases h : a = b
  · rw [← h, dicEq_self na, decide_eq_true rfl]
  · rw [decide_eq_false h]
    cases hq : dicEq a b with
    | false => rfl
    | true =>
      exfalso
      apply h
      unfold dicEq at hq
      rw [Bool.and_eq_true] at hq
      have hl : a.length = b.length := by simpa using hq.1
      have hm : ∀ q ∈ a, getI b q.1 = some q.2 := fun q hqa => by
        have := List.all_eq_true.mp hq.2 q hqa
        simpa using this
      have key : ∀ {m : List (Int × Int)}, (m.map (·.1)).Nodup → ∀ q ∈ m, getI m q.1 = some q.2 := by
        intro m hn q hqm
        have h2 := dicEq_self hn
        unfold dicEq at h2
        rw [Bool.and_eq_true] at h2
        have := List.all_eq_true.mp h2.2 q hqm
        simpa using this
      have ka : ∀ x ∈ a.map (·.1), x ∈ b.map (·.1) := fun x hx => by
        obtain ⟨q, hqa, rfl⟩ := List.mem_map.mp hx
        exact getI_some.mp (by rw [hm q hqa]; rfl)
      have kb := sub_back na ka (by rw [List.length_map, List.length_map, hl]; exact Nat.le_refl _)
      have hall : ∀ o, getI a o = getI b o := fun o => by
        by_cases ho : o ∈ a.map (·.1)
        · obtain ⟨q, hqa, rfl⟩ := List.mem_map.mp ho
          rw [hm q hqa, key na q hqa]
        · have h1 : getI a o = none := by
            cases hz : getI a o with
            | none => rfl
            | some c => exact absurd (getI_some.mp (by rw [hz]; rfl)) ho
          have h2 : getI b o = none := by
            cases hz : getI b o with
            | none => rfl
            | some c => exact absurd (kb o (getI_some.mp (by rw [hz]; rfl))) ho
          rw [h1, h2]
      rw [← ha, ← hb]
      refine coll_ext fun o => ?_
      rw [← getI_coll, ← getI_coll, ha, hb, hall o]
theorem dql_decM {ω : Type} {γ : Type} [DecidableEq γ] {g : γ → D ω} {P : D ω → D ω → Bool → Prop} : ∀ l m : List γ, (∀ x ∈ l, ∀ y ∈ m, P (g x) (g y) (decide (x = y))) → ∃ b, DQL P (l.map g) (m.map g) b ∧ (b && (l.length == m.length)) = decide (l = m)
  | [], [], _ => ⟨true, rfl, rfl⟩
  | [], y :: m, _ => ⟨true, rfl, rfl⟩
  | x :: l, [], _ => ⟨true, rfl, rfl⟩
  | x :: l, y :: m, h => by
    obtain ⟨b, h1, h2⟩ := dql_decM l m fun a ha c hc => h a (List.mem_cons_of_mem _ ha) c (List.mem_cons_of_mem _ hc)
    refine ⟨decide (x = y) && b, ⟨_, _, h x (List.mem_cons_self ..) y (List.mem_cons_self ..), h1, rfl⟩, ?_⟩
    have e : ((x :: l).length == (y :: m).length) = (l.length == m.length) := by
      show (l.length + 1 == m.length + 1) = _
      by_cases q : l.length = m.length <;> simp [q]
    rw [e, Bool.and_assoc, h2]
    by_cases q : x = y <;> by_cases q2 : l = m <;> simp [q, q2]
theorem dq_lst {ω : Type} {γ : Type} [DecidableEq γ] {g : γ → D ω} {oq : ω → ω → Bool → Prop} {n : Nat} {l m : List γ} (h : ∀ x ∈ l, ∀ y ∈ m, DQ oq n (g x) (g y) (decide (x = y))) : DQ oq (n + 1) (.lst (l.map g)) (.lst (m.map g)) (decide (l = m)) := by
  by_cases hl : l.length = m.length
  · obtain ⟨b, h1, h2⟩ := dql_decM l m h
    refine Or.inr ⟨by rw [List.length_map, List.length_map, hl], ?_⟩
    have : b = decide (l = m) := by rw [← h2, hl]; simp
    rw [← this]
    exact h1
  · exact Or.inl ⟨by rw [List.length_map, List.length_map]; exact hl, decide_eq_false fun z => hl (by rw [z])⟩
end SR
set_option maxRecDepth 100000
set_option maxHeartbeats 4000000
namespace SR
open PySem PySem.Spec PyProof.Rows L2 Evl
theorem fR_inj {p : Int} {a b : List PL} (h : fR p a = fR p b) : a = b := by
  have h2 := congrArg (List.map fun f : FilS => f.ps) h
  unfold fR at h2
  rw [List.map_map, List.map_map] at h2
  have e : ((fun f : FilS => f.ps) ∘ fun m : PL => (⟨p, m⟩ : FilS)) = id := rfl
  rw [e, List.map_id, List.map_id] at h2
  exact h2
theorem map_inj' {α β : Type} {f : α → β} (hf : ∀ x y, f x = f y → x = y) : ∀ {a b : List α}, a.map f = b.map f → a = b
  | [], [], _ => rfl
  | [], _ :: _, h => nomatch h
  | _ :: _, [], h => nomatch h
  | x :: a, y :: b, h => by
    obtain ⟨h1, h2⟩ := List.cons.inj h
    rw [hf x y h1, map_inj' hf h2]
theorem tT_eq {p w : Int} {a b : List (List PL)} : decide (tT p w a = tT p w b) = decide (a = b) := by
  by_cases h : a = b
  · rw [h, decide_eq_true rfl, decide_eq_true rfl]
  · rw [decide_eq_false h]
    refine decide_eq_false fun z => h ?_
    injection z with _ _ z3
    exact map_inj' (fun x y => fR_inj) z3
theorem tT_app {p w : Int} {a b : List (List PL)} : (⟨(tT p w a).p, (tT p w a).w, (tT p w a).ls ++ (tT p w b).ls⟩ : TabS) = tT p w (a ++ b) := by
  show (⟨p, w, a.map (fR p) ++ b.map (fR p)⟩ : TabS) = ⟨p, w, (a ++ b).map (fR p)⟩
  rw [List.map_append]
theorem dq_rs {p w : Int} {a b : List (List PL)} (ha : ∀ r ∈ a, OkR p w r) (hb : ∀ r ∈ b, OkR p w r) : DQ noOq 2 (rsD a) (rsD b) (decide (a = b)) :=
  dq_lst fun x hx y hy => dq_lst fun m hm m' hm' => ⟨((hb y hy).2 m' hm').2.1, by rw [dicEq_nrm ((ha x hx).2 m hm).1 ((hb y hy).2 m' hm').1]⟩
theorem OkT.app {p w : Int} {a b : List (List PL)} (ha : OkT p w a) (hb : OkT p w b) (hl : a.length + b.length ≤ 1000) : OkT p w (a ++ b) := ⟨ha.1, ha.2.1, ha.2.2.1, by rw [List.length_append]; exact hl, fun r hr => (List.mem_append.mp hr).elim (ha.2.2.2.2 r) (hb.2.2.2.2 r)⟩
section
variable {P : Program} {w : World} {K : PySem.W.Frag} {mg : Str → Option Value} {base : Heap} {CF CT : Addr}
theorem add_rel {p wd : Int} {a b : List (List PL)} (ha : OkT p wd a) (hb : OkT p wd b) (hl : a.length + b.length ≤ 1000) : rAddT [.obj (.tab (tT p wd a)), .obj (.tab (tT p wd b))] (.obj (.tab (tT p wd (a ++ b)))) :=
  ⟨tT p wd a, tT p wd b, rfl, ha.good, hb.good, rfl, rfl, by rw [ha.len, hb.len]; omega, by rw [tT_app]⟩
def rCompR : List (D Ob) → D Ob → Prop := fun ds d => ∃ (p wd : Int) (a b : List (List PL)), ds = [.obj (.tab (tT p wd a)), .obj (.tab (tT p wd b)), .int p, .int wd, rsD a, rsD b] ∧ OkT p wd a ∧ OkT p wd b ∧ a.length + b.length ≤ 500 ∧ d = .bl true
abbrev _law_compared_right_S : Stmt := topS 120
abbrev _law_compared_right_N : List Str := ["_law_t", "_law_u", "_law_p", "_law_width", "_law_one", "_law_two", "_law_thing"]
theorem _law_compared_right_sc : FnScope _law_compared_right_N ["_law_t", "_law_u", "_law_p", "_law_width", "_law_one", "_law_two"] (defScope _law_compared_right_S) := ⟨rfl, rfl, rfl, by decide +kernel, rfl, by decide +kernel, by decide +kernel⟩
theorem ok_compared {f : Addr} {fd : FuncData} (F : Fun K "_law_compared_right" "_law_compared_right" _law_compared_right_S f fd) (B : Bi mg) (c : TabC K CF CT) (cl : Cls K CT) (hnT : ∀ d : D Ob, PySem.W.notFirst K CT (tyD (fun o => .ref (obC CF CT o)) d) = true)
    (hne : PySem.W.findIn K (.ref CT) "__ne__" = some (some (.builtin "object.__ne__"))) (hmro : PySem.W.mroIn K CT (.type "object") = some true) (h_d_eq : DunOk P w K mg base CT 4 "__eq__" ["self", "other"] (SpD K (ObO K CF CT) rEqT)) (h_m_rows : MethOk P w K mg base CT 1 "rows" ["self"] (spRowsN K CF CT))
    (h_d_add : BinOk P w K mg base CT 6 .Add (SpD K (ObO K CF CT) rAddT)) (h__law_table : DefOk P w K mg base 8 "_law_table" ["_law_p", "_law_width", "_law_rows"] (SpD K (ObO K CF CT) rTable)) :
    FnOk P w K mg base CX0 9 f fd ["_law_t", "_law_u", "_law_p", "_law_width", "_law_one", "_law_two"] (SpD K (ObO K CF CT) rCompR) := by
  refine F.ok _law_compared_right_sc (fun vs H Q E h => ?_) (fun cdv A outer s0 H vs Q E hr h => ?_)
  · obtain ⟨G, ds, d, e, as, ⟨p, wd, o1, o2, rfl, _⟩, k⟩ := h
    exact as.len
  · obtain ⟨G, ds, d, e, as, ⟨p, wd, o1, o2, rfl, k1, k2, hl, rfl⟩, k⟩ := h
    obtain ⟨v1, r1, rfl, a1, n1⟩ := atL_cons.mp as
    obtain ⟨v2, r2, rfl, a2, n2⟩ := atL_cons.mp n1
    obtain ⟨v3, r3, rfl, a3, n3⟩ := atL_cons.mp n2
    obtain ⟨v4, r4, rfl, a4, n4⟩ := atL_cons.mp n3
    obtain ⟨v5, r5, rfl, a5, n5⟩ := atL_cons.mp n4
    obtain ⟨v6, r6, rfl, a6, n6⟩ := atL_cons.mp n5
    obtain rfl := atL_nil.mp n6
    obtain rfl := at_int.mp a3
    obtain rfl := at_int.mp a4
    have hi := insC (K := K) (CF := CF) (CT := CT)
    have oT := (ot_ob c).ty
    refine ⟨_, (pss_cons (ps_if (PW.pt (pw_or (pt_cmpR (op_neDun K h_d_eq hne hmro (hr.mono (by first | decide | exact Nat.le_refl _))) (pv 0) (pe_callD h__law_table (hr.mono (by first | decide | exact Nat.le_refl _)) (pa_cons (pv 2) (pa_cons (pv 3) (pa_cons (pv 4) pa_nil)))) (nomark _)) (pw_or (pt_not (pt_cmpR (op_eqDun K h_d_eq (hr.mono (by first | decide | exact Nat.le_refl _))) (pv 0) (pe_callD h__law_table (hr.mono (by first | decide | exact Nat.le_refl _)) (pa_cons (pv 2) (pa_cons (pv 3) (pa_cons (pv 4) pa_nil)))) (nomark _))) (pw_or1 (pt_cmpR op_ne (pe_cmpR (op_eqDun K h_d_eq (hr.mono (by first | decide | exact Nat.le_refl _))) (pv 0) (pv 1) (nomark _)) (pe_cmpR (op_eqDq (O := ObO K CF CT) (oq := noOq) same_no (fun _ _ _ z => z.elim) 2 (hr.mono (by first | decide | exact Nat.le_refl _))) (pv 4) (pv 5) (nomark _)) (nomark _)))))) (pss_one (ps_ret pe_bl)) pss_nil)
    (pss_cons (ps_if (PW.pt (pw_or (pt_cmpR op_ne (pe_cmpR (op_eqDun K h_d_eq (hr.mono (by first | decide | exact Nat.le_refl _))) (pe_op (op_binD h_d_add (hr.mono (by first | decide | exact Nat.le_refl _))) (pv 0) (pv 1)) (pe_op (op_binD h_d_add (hr.mono (by first | decide | exact Nat.le_refl _))) (pv 1) (pv 0)) (nomark _)) (pe_cmpR (op_eqDq (O := ObO K CF CT) (oq := noOq) same_no (fun _ _ _ z => z.elim) 2 (hr.mono (by first | decide | exact Nat.le_refl _))) (pe_op op_cat (pv 4) (pv 5)) (pe_op op_cat (pv 5) (pv 4)) (nomark _)) (nomark _)) (pw_or1 (pt_cmpR op_ne (pe_cmpR (op_neDun K h_d_eq hne hmro (hr.mono (by first | decide | exact Nat.le_refl _))) (pe_op (op_binD h_d_add (hr.mono (by first | decide | exact Nat.le_refl _))) (pv 0) (pv 1)) (pv 0) (nomark _)) (pe_cmpR (op_neNilL hr.units0) (pv 5) (pe_lst pa_nil) (nomark _)) (nomark _))))) (pss_one (ps_ret pe_bl)) pss_nil)
    (pss_one (ps_ret (pe_not (pe_callB (cr_anyK K rfl) (by rfl) B.any (by decide +kernel) (pa_cons (pe_lc (own := [("_law_thing", 6)]) rfl _law_compared_right_sc.nd (pi_list (pe_lst (pa_cons pe_non (pa_cons pe_int (pa_cons (pe_methD0 cl h_m_rows (hr.mono (by first | decide | exact Nat.le_refl _)) (pv 0)) (pa_cons (pv 2) (pa_cons pe_str (pa_cons (pe_tup (pa_cons (pv 2) (pa_cons (pv 3) (pa_cons (pe_methD0 cl h_m_rows (hr.mono (by first | decide | exact Nat.le_refl _)) (pv 0)) pa_nil)))) pa_nil)))))))) (blkOk_by (N := _law_compared_right_N) (sc := defScope _law_compared_right_S) (by decide +kernel)) (fun _ _ _ _ _ => (pg_name (i := 6) _law_compared_right_sc.nd rfl (Or.inl rfl))) (fun _ _ _ _ _ => pts_nil) (fun _ _ _ _ _ => by exact (pe_cmpR (op_eqDun K h_d_eq (hr.mono (by first | decide | exact Nat.le_refl _))) (pv 0) (pv 6) (nomark _)))) pa_nil))))))), ?_⟩
    generalize hσ : start _law_compared_right_N _ = σ
    have h1 : EvD K (ObO K CF CT) (tVar 0) σ G (.obj (.tab (tT p wd o1))) := by subst hσ; exact ed_var rfl a1
    have h2 : EvD K (ObO K CF CT) (tVar 1) σ G (.obj (.tab (tT p wd o2))) := by subst hσ; exact ed_var rfl a2
    have h3 : EvD K (ObO K CF CT) (tVar 2) σ G (.int p) := by subst hσ; exact ed_var rfl (at_int.mpr rfl)
    have h4 : EvD K (ObO K CF CT) (tVar 3) σ G (.int wd) := by subst hσ; exact ed_var rfl (at_int.mpr rfl)
    have h5 : EvD K (ObO K CF CT) (tVar 4) σ G (rsD o1) := by subst hσ; exact ed_var rfl a5
    have h6 : EvD K (ObO K CF CT) (tVar 5) σ G (rsD o2) := by subst hσ; exact ed_var rfl a6
    have hz1 := k1.len
    have z1 := k1.2.2.2.1
    have z2 := k2.2.2.2.1
    have k12 := k1.app k2 (by omega)
    have k21 := k2.app k1 (by omega)
    have htab : EvD K (ObO K CF CT) (tCall (SpD K (ObO K CF CT) rTable) [] E0 (tCons (tVar 2) (tCons (tVar 3) (tCons (tVar 4) tNil)))) σ G (.obj (.tab (tT p wd o1))) := ed_call (eda_cons h3 (eda_cons h4 (eda_cons h5 eda_nil))) ⟨p, wd, o1, rfl, k1, rfl⟩
    have self : eqT (tT p wd o1) (.obj (.tab (tT p wd o1))) = true := decide_eq_true rfl
    refine q_skip (et_is (et_or (et_test (ev_neI (T := obC CF CT) hi rfl oT (hnT _) h1 htab ⟨_, _, rfl, rfl⟩)) fun _ => et_or (et_not (et_test (ev_eqI (T := obC CF CT) hi rfl oT (hnT _) h1 htab ⟨_, _, rfl, rfl⟩))) fun _ =>
      et_test (ev_op (ev_eqI (T := obC CF CT) hi rfl oT (hnT _) h1 h2 ⟨_, _, rfl, rfl⟩) (ev_eqQ h5 h6 ⟨dq_rs k1.2.2.2.2 k2.2.2.2.2, rfl⟩) (rv_ne rfl))) ?_) e fun H2 l2 => ?_
    · rw [self]
      have : eqT (tT p wd o1) (.obj (.tab (tT p wd o2))) = decide (o1 = o2) := tT_eq
      rw [this]
      simp
    have hs12 := ed_binI (R := rAddT) (T := obC CF CT) (w := .tab (tT p wd o1)) (u := .tab (tT p wd o2)) hi rfl rfl h1 h2 (add_rel k1 k2 (by omega))
    have hs21 := ed_binI (R := rAddT) (T := obC CF CT) (w := .tab (tT p wd o2)) (u := .tab (tT p wd o1)) hi rfl rfl h2 h1 (add_rel k2 k1 (by omega))
    have hc12 : EvD K (ObO K CF CT) (tOp rCat (tVar 4) (tVar 5)) σ G (rsD (o1 ++ o2)) := by
      have := ed_cat h5 h6 (by rw [List.length_map, List.length_map]; omega)
      rw [← List.map_append] at this
      exact this
    have hc21 : EvD K (ObO K CF CT) (tOp rCat (tVar 5) (tVar 4)) σ G (rsD (o2 ++ o1)) := by
      have := ed_cat h6 h5 (by rw [List.length_map, List.length_map]; omega)
      rw [← List.map_append] at this
      exact this
    refine q_skip (et_is (et_or (et_test (ev_op (ev_eqI (T := obC CF CT) hi rfl oT (hnT _) hs12 hs21 ⟨_, _, rfl, rfl⟩) (ev_eqQ hc12 hc21 ⟨dq_rs k12.2.2.2.2 k21.2.2.2.2, rfl⟩) (rv_ne rfl))) fun _ =>
      et_test (ev_op (ev_neI (T := obC CF CT) hi rfl oT (hnT _) hs12 h1 ⟨_, _, rfl, rfl⟩) (ev_neNilL h6) (rv_ne rfl))) ?_) l2.e fun H3 l3 => ?_
    · have e1 : eqT (tT p wd (o1 ++ o2)) (.obj (.tab (tT p wd (o2 ++ o1)))) = decide (o1 ++ o2 = o2 ++ o1) := tT_eq
      have e2 : eqT (tT p wd (o1 ++ o2)) (.obj (.tab (tT p wd o1))) = (o2.map rD).isEmpty := by
        show decide (tT p wd (o1 ++ o2) = tT p wd o1) = _
        rw [tT_eq]
        cases o2 with
        | nil => simp
        | cons a b => simp
      rw [e1, e2]
      simp
    have l23 := l2.trans l3
    have hrows := ed_trows (by omega) h1
    have hL : EvD K (ObO K CF CT) (tLst (tCons (tC .non) (tCons (tC (.int 0)) (tCons (tMeth CT "rows" (spRowsN K CF CT) [] E0 (tVar 0) tNil) (tCons (tVar 2) (tCons (tC (.str "t")) (tCons (tTup (tCons (tVar 2) (tCons (tVar 3) (tCons (tMeth CT "rows" (spRowsN K CF CT) [] E0 (tVar 0) tNil) tNil)))) tNil))))))) σ G
        (.lst [.non, .int 0, .lst ((tT p wd o1).ls.map rwL), .int p, .str "t", .tup [.int p, .int wd, .lst ((tT p wd o1).ls.map rwL)]]) :=
      ed_lst (eda_cons (ed_of ev_c (at_non.mpr rfl)) (eda_cons (ed_of ev_c (at_int.mpr rfl)) (eda_cons hrows (eda_cons h3 (eda_cons (ed_of ev_c (at_str.mpr rfl)) (eda_cons (ed_tup (eda_cons h3 (eda_cons h4 (eda_cons hrows eda_nil))) (by show 3 ≤ 100000; decide)) eda_nil)))))) (by show 6 ≤ 100000; decide)
    have h7 := ed_lc (K := K) (O := ObO K CF CT) (G := G) (te := tOp (rEqOwn K CT (SpD K (ObO K CF CT) rEqT) E0) (tVar 0) (tVar 6)) (tt := tYes) (vs := [6]) (g := gName 6) (σ := σ) (fun _ => true) (fun _ => D.bl false) (src_list hL) (by show 6 ≤ 40000; decide) (fun i d x Gi Hi hd eg eh ad Q' hQ => ?_)
    · refine s_retD (ed_of (v := .bl true) (ev_is (ev_notV (a := false) (ev_is (ev_anyD (K := K) (O := ObO K CF CT) (bs := [false, false, false, false, false, false]) h7) rfl)) rfl) (at_bl.mpr rfl)) l3.e (k.mono l23)
    · subst hσ
      refine hQ _ Hi (Ex.refl _) rfl et_yes fun _ => ed_of (ev_is (ev_eqI (T := obC CF CT) hi rfl oT (hnT d) (ed_var (i := 0) rfl (a1.mono eg)) (ed_var (i := 6) rfl ad) ⟨_, _, rfl, rfl⟩) ?_) (at_bl.mpr rfl)
      match i, hd with
      | 0, hd => cases hd; rfl
      | 1, hd => cases hd; rfl
      | 2, hd => cases hd; rfl
      | 3, hd => cases hd; rfl
      | 4, hd => cases hd; rfl
      | 5, hd => cases hd; rfl
      | n + 6, hd => simp at hd
end
end SR
set_option maxRecDepth 100000
set_option maxHeartbeats 8000000
namespace SR
open PySem PySem.Spec PyProof.Rows L2 Evl
theorem FnOk.anyX {P : Program} {w : World} {K : PySem.W.Frag} {mg : Str → Option Value} {base : Heap} {CX : CXT} {k add : Nat} {f : Addr} {fd : FuncData} {ps : List Str} {Pre : ∀ ω : Type, List (D ω) → Prop} {R : ∀ ω : Type, List (D ω) → D ω → Prop} (F : ∀ (ω : Type) (O : OI ω), FnOk P w K mg base CX k f fd ps (SpX K O add (Pre ω) (R ω))) : FnOk P w K mg base CX k f fd ps (fun vs H Q E => ∃ (ω : Type) (O : OI ω), SpX K O add (Pre ω) (R ω) vs H Q E) :=
  ⟨fun vs H Q E ⟨ω, O, h⟩ => (F ω O).len _ _ _ _ h, fun A outer s H args us vs Q E hr he hb hv ⟨ω, O, h⟩ => (F ω O).run A outer s H args us vs Q E hr he hb hv h⟩
/-- pick, whatever the things are -/
def spPickA (K : PySem.W.Frag) : Sp := fun vs H Q E => ∃ (ω : Type) (O : OI ω), SpX K O 1 pPick rPick vs H Q E
section
variable {K : PySem.W.Frag} {CF CT : Addr} {G H : Hp} {ta : TA} {te : TE} {σ : L2.St} {p : Int} {r : List PL}
theorem x_filsN (hp : primes.contains p = true) (hz : r.length ≤ 30000) (hok : ∀ m ∈ r, OkM p m) (h : EvDA K (ObO K CF CT) ta σ G [.int p, rD r]) : ∀ (H1 : Hp), Ex G H1 → ∀ Q : VK, (∀ (l : Addr) (G2 H2 : Hp), H1 l = none → Le G H1 G2 H2 → At K (ObO K CF CT) G2 (rwL (fR p r)) (.ref l) → Q (.ref l) H2) → tCall (spFilsN K CF CT) [] E0 ta σ H1 Q := fun H1 e Q k =>
  h H1 e _ fun vs G2 H2 l as => by
    obtain ⟨v1, r1, rfl, a1, n1⟩ := atL_cons.mp as
    obtain ⟨v2, r2, rfl, a2, n2⟩ := atL_cons.mp n1
    obtain rfl := atL_nil.mp n2
    obtain rfl := at_int.mp a1
    exact ⟨G2, p, r, v2, rfl, l.e, hp, hz, hok, a2, fun u G3 H3 hu l3 al => k u G3 H3 (l.back hu) (l.trans l3) al⟩
theorem ed_filsN (hp : primes.contains p = true) (hz : r.length ≤ 30000) (hok : ∀ m ∈ r, OkM p m) (h : EvDA K (ObO K CF CT) ta σ G [.int p, rD r]) : EvD K (ObO K CF CT) (tCall (spFilsN K CF CT) [] E0 ta) σ G (rwL (fR p r)) := fun H1 e Q k => x_filsN hp hz hok h H1 e Q fun l G2 H2 _ le al => k _ G2 H2 le al
/-! ### what is passed: lists that are new, and tuples -/
abbrev O2 (K : PySem.W.Frag) (CF CT : Addr) (H0 : Hp) : OI (Ob ⊕ List FilS) := SumO (ObO K CF CT) (LkR K CF CT H0)
def ek (r : Rw) : D (Ob ⊕ List FilS) := if r.1 then .obj (.inr r.2) else dmap Sum.inl (rwD r.2)
theorem ek_at {H0 : Hp} {x : Rw} {v : V} (a : At K (O2 K CF CT H0) G (ek x) v) : At K (ObO K CF CT) G (rk x) v := by
  obtain ⟨b, l⟩ := x
  cases b with
  | true =>
    obtain ⟨y, rfl, us, h1, h2, _⟩ := at_obj.mp (show At K (O2 K CF CT H0) G (.obj (.inr l)) v from a)
    exact at_lst.mpr ⟨y, us, rfl, h1, h2⟩
  | false => exact (at_dmap (f := Sum.inl) (O' := O2 K CF CT H0) lifts_inl).mp (show At K (O2 K CF CT H0) G (dmap Sum.inl (rwD l)) v from a)
theorem eks_at {H0 : Hp} : ∀ {rs : List Rw} {us : List V}, AtL K (O2 K CF CT H0) G (rs.map ek) us → AtL K (ObO K CF CT) G (rs.map rk) us
  | [], us, h => atL_nil.mpr (atL_nil.mp h)
  | x :: rs, us, h => by
    obtain ⟨v, u, rfl, a, n⟩ := atL_cons.mp h
    exact atL_cons.mpr ⟨v, u, rfl, ek_at a, eks_at n⟩
theorem rows_of : ∀ {o : List (List PL)} {es : List (D (Ob ⊕ List FilS))}, es.length = o.length → (∀ (i : Nat) (d : D (Ob ⊕ List FilS)), es[i]? = some d → ∃ r : List PL, o[i]? = some r ∧ (d = .obj (.inr (fR p r)) ∨ d = dmap Sum.inl (rwD (fR p r)))) → ∃ rs : List Rw, es = rs.map ek ∧ rs.map (·.2) = o.map (fR p)
  | [], [], _, _ => ⟨[], rfl, rfl⟩
  | [], d :: es, h, _ => by simp at h
  | r :: o, [], h, _ => by simp at h
  | r :: o, d :: es, h, hd => by
    obtain ⟨rs, h1, h2⟩ := rows_of (o := o) (es := es) (by simpa using h) fun i d' hi => hd (i + 1) d' (by simpa using hi)
    obtain ⟨r', hr', hc⟩ := hd 0 d rfl
    obtain rfl := Option.some.inj hr'
    rcases hc with rfl | rfl
    · exact ⟨(true, fR p r) :: rs, by rw [List.map_cons, h1]; rfl, by rw [List.map_cons, List.map_cons, h2]⟩
    · exact ⟨(false, fR p r) :: rs, by rw [List.map_cons, h1]; rfl, by rw [List.map_cons, List.map_cons, h2]⟩
def isInr : D (Ob ⊕ List FilS) → Bool | .obj (.inr _) => true | _ => false
theorem isInr_ek {x : Rw} : isInr (ek x) = x.1 := by
  obtain ⟨b, l⟩ := x
  cases b <;> rfl
/-- isinstance(row, list) -/
theorem isi_rowL (K0 : PySem.W.kitOne K (.type "list") (.type "list") = some true) (K1 : PySem.W.kitOne K (.type "tuple") (.type "list") = some false) {H0 : Hp} {x : Rw} (h : EvD K (O2 K CF CT H0) te σ G (ek x)) : Ev (tCB (rIsi K) (tCons te (tCons (tC (.ty "list")) tNil))) σ G (.bl x.1) := fun H1 e Q q =>
  h H1 e _ fun v G2 H2 l a => by
    obtain ⟨b, fs⟩ := x
    cases b with
    | true =>
      obtain ⟨y, rfl, us, h1, h2, _⟩ := at_obj.mp (show At K (O2 K CF CT H0) G2 (.obj (.inr fs)) v from a)
      exact ⟨.ref y, .ty "list", _, _, _, rfl, .ty _, tyL (sq_of (l.e _ _ h1)), K0, q H2 l.h⟩
    | false =>
      have a' := (at_dmap (f := Sum.inl) (O' := O2 K CF CT H0) lifts_inl).mp (show At K (O2 K CF CT H0) G2 (dmap Sum.inl (rwD fs)) v from a)
      obtain ⟨y, us, rfl, h1, h2⟩ := at_tup.mp a'
      exact ⟨.ref y, .ty "list", _, _, _, rfl, .ty _, tyT (ex_t l.e h1), K1, q H2 l.h⟩
/-! ### without lists -/
theorem ob_nol {t : TabS} {v : V} (h : At K (ObO K CF CT) G (.obj (.tab t)) v) : At K (ObO K CF CT) (nol G) (.obj (.tab t)) v := by
  obtain ⟨x, rfl, dx, lp, h1, h2⟩ := at_obj.mp h
  refine at_obj.mpr ⟨x, rfl, dx, lp, nol_keep h1 (fun _ z => nomatch z), ?_⟩
  obtain ⟨y, us, hy, hs, as⟩ := at_tup.mp h2
  refine at_tup.mpr ⟨y, us, hy, nol_t hs, ?_⟩
  have row : ∀ {fs : List FilS} {vs : List V}, AtL K (FilO K CF) G (fs.map D.obj) vs → AtL K (FilO K CF) (nol G) (fs.map D.obj) vs := by
    intro fs
    induction fs with
    | nil => intro vs z; exact atL_nil.mpr (atL_nil.mp z)
    | cons f fs ih =>
      intro vs z
      obtain ⟨v, u, rfl, b, n⟩ := atL_cons.mp z
      exact atL_cons.mpr ⟨_, _, rfl, fil_nol b, ih n⟩
  have all : ∀ {ls : List (List FilS)} {vs : List V}, AtL K (FilO K CF) G (ls.map rwF) vs → AtL K (FilO K CF) (nol G) (ls.map rwF) vs := by
    intro ls
    induction ls with
    | nil => intro vs z; exact atL_nil.mpr (atL_nil.mp z)
    | cons f ls ih =>
      intro vs z
      obtain ⟨v, u, rfl, b, n⟩ := atL_cons.mp z
      obtain ⟨y', us', hy', hs', as'⟩ := at_tup.mp b
      exact atL_cons.mpr ⟨_, _, rfl, at_tup.mpr ⟨y', us', hy', nol_t hs', row as'⟩, ih n⟩
  exact all as
end
end SR
set_option maxRecDepth 100000
set_option maxHeartbeats 8000000
namespace SR
open PySem PySem.Spec PyProof.Rows L2 Evl
def spLaw15 (K : PySem.W.Frag) : Sp := fun vs H Q _ => ∃ (a : Addr) (ns : List Int), vs = [.ref a] ∧ SqL K H a (ns.map V.int) ∧ ns.length ≤ 63 ∧ ∀ H', Q (.bl true) H'
abbrev S16 (x0 x1 x2 x3 x4 x5 x6 x7 x8 x9 x10 x11 x12 x13 x14 x15 : Option V) : L2.St := [x0, x1, x2, x3, x4, x5, x6, x7, x8, x9, x10, x11, x12, x13, x14, x15]
section
variable {P : Program} {w : World} {K : PySem.W.Frag} {mg : Str → Option Value} {base : Heap} {CF CT : Addr}
/-- [row(spring, p, width, 3, 12) for k in range(draw(n))] -/
theorem x_rows {G H : Hp} {s q : Addr} {n : Nat} {x0 x2 x3 x4 x5 x6 x7 x8 x11 x12 x13 x14 x15 : Option V} {p wd : Int} {m : Int} (hp : primes.contains p = true) (hw : 0 ≤ wd ∧ wd ≤ 5) (hm : 0 < m ∧ m ≤ 5) (hn : n + 501 ≤ 1000000) (A : At2 s q G H n)
    (Q : VK) (k : ∀ (o : List (List PL)) (v : V) (G2 H2 : Hp), (o.length : Int) < m → (∀ r ∈ o, OkR p wd r) → LeX s q G H G2 H2 → Spr H2 s q (n + 501) → At K (ObO K CF CT) G2 (rsD o) v → Q v H2) :
    tLc (iRng1 (tCons (tCall (SpX K (ObO K CF CT) 1 pDraw rDraw) [] E0 (tCons (tVar 1) (tCons (tC (.int m)) tNil))) tNil)) (gName 15) tYes (tCall (SpX K (ObO K CF CT) 100 pRow rRowX) [] E0 (tCons (tVar 1) (tCons (tVar 9) (tCons (tVar 10) (tCons (tC (.int 3)) (tCons (tC (.int 12)) tNil)))))) [15] (S16 x0 (.some (.ref s)) x2 x3 x4 x5 x6 x7 x8 (.some (.int p)) (.some (.int wd)) x11 x12 x13 x14 x15) H Q := by
  refine x_call A.e A.gs A.gq A.spr (by omega) (i := 1) rfl (eda_int (K := K) (O := ObO K CF CT) ev_c) ⟨m, rfl, hm.1, by omega⟩ fun d v G2 H2 ⟨m', x, hq, hd, hx0, hx1⟩ l2 sp2 av => ?_
  obtain rfl : m = m' := D.int.inj (List.cons.inj hq).1
  subst hd
  obtain rfl := at_int.mp av
  have A2 := A.go l2 sp2
  show tLc (iRng1 (tCons (tC (.int x)) tNil)) (gName 15) tYes (tCall (SpX K (ObO K CF CT) 100 pRow rRowX) [] E0 (tCons (tVar 1) (tCons (tVar 9) (tCons (tVar 10) (tCons (tC (.int 3)) (tCons (tC (.int 12)) tNil)))))) [15] (S16 x0 (.some (.ref s)) x2 x3 x4 x5 x6 x7 x8 (.some (.int p)) (.some (.int wd)) x11 x12 x13 x14 x15) H2 Q
  have hlen : (rngD (ω := Ob) 0 x.toNat).length = x.toNat := by simp [rngD]
  refine x_lcX (K := K) (O := ObO K CF CT) (add := 100) (fun _ d => ∃ r, d = rD r ∧ OkR p wd r) (src_r1 (O := ObO K CF CT) (n := x) (ea_cons ev_c ea_nil) ⟨by omega, by omega⟩) (by rw [hlen]; omega) A2 (fun i d y Gi Hi hi hd lx Ai ad Q' hQ => ?_) Q fun Dl Gz H3 us es hD l sp gn as hl' hes => ?_
  · have hi5 : i < 5 := by omega
    refine hQ (S16 x0 (.some (.ref s)) x2 x3 x4 x5 x6 x7 x8 (.some (.int p)) (.some (.int wd)) x11 x12 x13 x14 (.some y)) Hi (Ex.refl _) rfl et_yes fun H3 Q3 _ A3 k3 => ?_
    refine x_call A3.e A3.gs A3.gq A3.spr (by omega) (i := 1) rfl (eda_cons (ed_of (ev_var (i := 9) rfl) (at_int.mpr rfl)) (eda_cons (ed_of (ev_var (i := 10) rfl) (at_int.mpr rfl)) (eda_cons (ed_of (v := .int 3) ev_c (at_int.mpr rfl)) (eda_cons (ed_of (v := .int 12) ev_c (at_int.mpr rfl)) eda_nil)))) ⟨p, wd, 3, 12, rfl, hp, hw.1, hw.2, by decide, by decide, by decide, by decide⟩ fun d v G4 H4 ⟨p', wd', m', re', r, hdq, hd', hr⟩ l4 sp4 a4 => ?_
    obtain rfl : p = p' := D.int.inj (List.cons.inj hdq).1
    obtain rfl : wd = wd' := D.int.inj (List.cons.inj (List.cons.inj hdq).2).1
    exact k3 d v G4 H4 ⟨r, hd', hr⟩ l4 (by rw [Nat.mul_add, Nat.mul_one, ← Nat.add_assoc]; exact sp4) a4
  · have key : ∀ {es : List (D Ob)}, (∀ d ∈ es, ∃ r, d = rD r ∧ OkR p wd r) → ∃ o : List (List PL), es = o.map rD ∧ ∀ r ∈ o, OkR p wd r := by
      intro es
      induction es with
      | nil => intro _; exact ⟨[], rfl, fun r z => nomatch z⟩
      | cons d es ih =>
        intro h
        obtain ⟨r, rfl, hr⟩ := h d (List.mem_cons_self ..)
        obtain ⟨o, rfl, ho⟩ := ih fun d hd => h d (List.mem_cons_of_mem _ hd)
        exact ⟨r :: o, rfl, fun x hx => by
          rcases List.mem_cons.mp hx with rfl | z
          · exact hr
          · exact ho x z⟩
    obtain ⟨o, rfl, ho⟩ := key fun d hd => by
      obtain ⟨j, hj, rfl⟩ := List.mem_iff_getElem.mp hd
      exact hes j _ (List.getElem?_eq_getElem hj)
    rw [List.length_map, hlen] at hl'
    exact k o (.ref Dl) _ H3 (by omega) ho (l2.trans l) (sp.keep (fun _ _ z => z) (by rw [hlen]; omega)) (at_lst.mpr ⟨Dl, us, rfl, upd_same, as.mono (Ex.new gn)⟩)
end
end SR
set_option maxRecDepth 100000
set_option maxHeartbeats 8000000
namespace SR
open PySem PySem.Spec PyProof.Rows L2 Evl
section
variable {P : Program} {w : World} {K : PySem.W.Frag} {mg : Str → Option Value} {base : Heap} {CF CT : Addr}
theorem q_asgT {te : TE} {i : Nat} {tz : TS} {De : Ends} {σ : L2.St} {H : Hp} (h : te σ H (fun v H1 => tz De (σ.set i (some v)) H1)) : tSeq (tAsg te (gName i)) tz De σ H := h
theorem x_strange {G H : Hp} {s q : Addr} {n : Nat} {x0 x2 x3 x4 x5 x6 x7 x8 x11 x12 x13 x14 x15 : Option V} {p wd : Int} (hp : primes.contains p = true) (hw : 1 ≤ wd ∧ wd ≤ 5) (hn : n + 1 ≤ 1000000) (A : At2 s q G H n)
    (Q : VK) (k : ∀ (p' : Int) (v : V) (G2 H2 : Hp), primes.contains p' = true → p' ≠ p → LeX s q G H G2 H2 → Spr H2 s q (n + 1) → At K (ObO K CF CT) G2 (.obj (.tab ⟨p', wd, []⟩)) v → Q v H2) :
    tMake CT (spTInit K CF CT) [] E0 (tCons (tCall (SpX K (ObO K CF CT) 1 pOther rOther) [] E0 (tCons (tVar 1) (tCons (tVar 9) tNil))) (tCons (tVar 10) (tCons (tTup tNil) tNil))) (S16 x0 (.some (.ref s)) x2 x3 x4 x5 x6 x7 x8 (.some (.int p)) (.some (.int wd)) x11 x12 x13 x14 x15) H Q := by
  refine x_call A.e A.gs A.gq A.spr hn (i := 1) rfl (eda_cons (ed_of (ev_var (i := 9) rfl) (at_int.mpr rfl)) eda_nil) ⟨p, rfl, hp⟩ fun d v G20 H20 ⟨p0, p', hdq, hd', hp', hpne⟩ l20 sp20 a20 => ?_
  obtain rfl : p = p0 := D.int.inj (List.cons.inj hdq).1
  subst hd'
  obtain rfl := at_int.mp a20
  have A20 := A.go l20 sp20
  show tMake CT (spTInit K CF CT) [] E0 (tCons (tC (.int p')) (tCons (tVar 10) (tCons (tTup tNil) tNil))) (S16 x0 (.some (.ref s)) x2 x3 x4 x5 x6 x7 x8 (.some (.int p)) (.some (.int wd)) x11 x12 x13 x14 x15) H20 Q
  have hS := ed_tmake (K := K) (CF := CF) (CT := CT) (E := E0) (p := p') (wd := wd) (G := G20) (σ := S16 x0 (.some (.ref s)) x2 x3 x4 x5 x6 x7 x8 (.some (.int p)) (.some (.int wd)) x11 x12 x13 x14 x15) (t := tCons (tC (.int p')) (tCons (tVar 10) (tCons (tTup tNil) tNil))) (d := .tup []) (rs := []) (eda_cons (ed_of ev_c (at_int.mpr rfl)) (eda_cons (ed_of (ev_var (i := 10) rfl) (at_int.mpr rfl)) (eda_cons (ed_tup eda_nil (by show 0 ≤ 100000; decide)) eda_nil))) hp' hw.1 (by omega) ⟨Or.inr rfl, fun r z => nomatch z⟩ (by show 0 ≤ 30000; decide)
  exact hS H20 A20.e _ fun vs G21 H21 l21 as' => k p' vs G21 H21 hp' hpne (l20.trans l21.x) (sp20.keep l21.h (Nat.le_refl _)) as'
theorem q_parT {t1 t2 : TE} {i j : Nat} {tz : TS} {De : Ends} {σ : L2.St} {H : Hp} (h : t1 σ H fun x H1 => t2 σ H1 fun y H2 => ∃ x' y', [x, y] = [x', y'] ∧ tz De ((σ.set i (some x')).set j (some y')) H2) : tSeq (tPar i j (tCons t1 (tCons t2 tNil))) tz De σ H := h
abbrev law_S : Stmt := topS 121
abbrev law_N : List Str := ["_law_script", "_law_spring_here", "_law_turn", "_law_one", "_law_two", "_law_passed", "_law_inner", "_law_row_here", "_law_v", "_law_p", "_law_width", "_law_t", "_law_u", "_law_empty", "_law_strange", "_law_k"]
theorem law_sc : FnScope law_N ["_law_script"] (defScope law_S) := ⟨rfl, rfl, rfl, by decide +kernel, rfl, by decide +kernel, by decide +kernel⟩
theorem ok_law {f C_Table a0 : Addr} {fd : FuncData} (hCT : C_Table = CT) (F : Fun K "law" "law" law_S f fd) (B : Bi mg) (c : TabC K CF CT) (hnT : ∀ d : D Ob, PySem.W.notFirst K CT (tyD (fun o => .ref (obC CF CT o)) d) = true)
    (hne : PySem.W.findIn K (.ref CT) "__ne__" = some (some (.builtin "object.__ne__"))) (hmro : PySem.W.mroIn K CT (.type "object") = some true) (h0 : ∀ H, SqT K H a0 [])
    (K0 : PySem.W.kitOne K (.type "list") (.type "list") = some true) (K1 : PySem.W.kitOne K (.type "tuple") (.type "list") = some false)
    (h__law_spring : DefOk P w K mg base 1 "_law_spring" ["_law_script"] (spSpring K))
    (h__law_prime : DefOk P w K mg base 3 "_law_prime" ["_law_spring_here"] (SpX K (ObO K CF CT) 1 pPrime rPrime))
    (h__law_other : DefOk P w K mg base 3 "_law_other" ["_law_spring_here", "_law_p"] (SpX K (ObO K CF CT) 1 pOther rOther))
    (h__law_draw : DefOk P w K mg base 1 "_law_draw" ["_law_spring_here", "_law_many"] (SpX K (ObO K CF CT) 1 pDraw rDraw))
    (h__law_row : DefOk P w K mg base 3 "_law_row" ["_law_spring_here", "_law_p", "_law_width", "_law_most", "_law_reach"] (SpX K (ObO K CF CT) 100 pRow rRowX))
    (h__law_pick : DefOk P w K mg base 2 "_law_pick" ["_law_spring_here", "_law_things"] (spPickA K))
    (h__law_filters : DefOk P w K mg base 7 "_law_filters" ["_law_p", "_law_row_here"] (spFilsN K CF CT))
    (h_Table : MakeOk P w K mg base C_Table 4 "Table" ["self", "prime", "width", "rows"] [] (spTInit K CF CT))
    (h_Table2 : MakeOk P w K mg base C_Table 4 "Table" ["self", "prime", "width", "rows"] [.ref a0] (spTInit K CF CT))
    (h__law_table : DefOk P w K mg base 8 "_law_table" ["_law_p", "_law_width", "_law_rows"] (SpD K (ObO K CF CT) rTable))
    (h__law_table_is : DefOk P w K mg base 7 "_law_table_is" ["_law_t", "_law_p", "_law_width", "_law_due"] (SpD K (ObO K CF CT) rTableIs))
    (h__law_told_rows_right : DefOk P w K mg base 8 "_law_told_rows_right" ["_law_t", "_law_p", "_law_width", "_law_due"] (SpD K (ObO K CF CT) rTableIs))
    (h__law_compared_right : DefOk P w K mg base 9 "_law_compared_right" ["_law_t", "_law_u", "_law_p", "_law_width", "_law_one", "_law_two"] (SpD K (ObO K CF CT) rCompR))
    (h_d_add : BinOk P w K mg base CT 6 .Add (SpD K (ObO K CF CT) rAddT)) (h_i_add : InOk K CT .Add) (h_d_eq : DunOk P w K mg base CT 4 "__eq__" ["self", "other"] (SpD K (ObO K CF CT) rEqT)) :
    FnOk P w K mg base CX0 10 f fd ["_law_script"] (spLaw15 K) := by
  subst hCT
  refine F.ok law_sc (fun vs H Q E h => ?_) (fun cdv A outer s0 H vs Q E hr h => ?_)
  · obtain ⟨a, ns, rfl, _⟩ := h
    rfl
  · obtain ⟨a, ns, rfl, hsq, hns, k⟩ := h
    have hi := insC (K := K) (CF := CF) (CT := C_Table)
    have oT := (ot_ob c).ty
    refine ⟨_, (pss_cons (ps_set (i := 1) law_sc.nd rfl (Or.inr rfl) (pe_callD h__law_spring (hr.mono (by first | decide | exact Nat.le_refl _)) (pa_cons (pv 0) pa_nil)))
    (pss_cons (ps_for PassesOwn.never rfl (pi_range1 (by rfl) B.range (pa_cons pe_int pa_nil)) (pg_name (i := 2) law_sc.nd rfl (Or.inl rfl)) (pss_cons (ps_asg (pe_tup (pa_cons (pe_callD h__law_prime (hr.mono (by first | decide | exact Nat.le_refl _)) (pa_cons (pv 1) pa_nil)) (pa_cons (pe_op op_add pe_int (pe_callD h__law_draw (hr.mono (by first | decide | exact Nat.le_refl _)) (pa_cons (pv 1) (pa_cons pe_int pa_nil)))) pa_nil))) (pg_tupK (k := 2) K rfl (pgs_cons (pg_name (i := 9) law_sc.nd rfl (Or.inr rfl)) (pgs_cons (pg_name (i := 10) law_sc.nd rfl (Or.inr rfl)) pgs_nil))))
    (pss_cons (ps_setLc (i := 3) (own := [("_law_k", 15)]) rfl law_sc.nd rfl rfl (sw_true rfl rfl rfl (by decide +kernel)) (pi_range1 (by rfl) B.range (pa_cons (pe_callD h__law_draw (hr.mono (by first | decide | exact Nat.le_refl _)) (pa_cons (pv 1) (pa_cons pe_int pa_nil))) pa_nil)) (blkOk_by (N := law_N) (sc := defScope law_S) (by decide +kernel)) (fun _ _ _ _ _ => (pg_name (i := 15) law_sc.nd rfl (Or.inl rfl))) (fun _ _ _ _ _ => pts_nil) (fun _ _ _ _ _ => by exact (pe_callD h__law_row (hr.mono (by first | decide | exact Nat.le_refl _)) (pa_cons (pv 1) (pa_cons (pv 9) (pa_cons (pv 10) (pa_cons pe_int (pa_cons pe_int pa_nil))))))))
    (pss_cons (ps_setLc (i := 4) (own := [("_law_k", 15)]) rfl law_sc.nd rfl rfl (sw_true rfl rfl rfl (by decide +kernel)) (pi_range1 (by rfl) B.range (pa_cons (pe_callD h__law_draw (hr.mono (by first | decide | exact Nat.le_refl _)) (pa_cons (pv 1) (pa_cons pe_int pa_nil))) pa_nil)) (blkOk_by (N := law_N) (sc := defScope law_S) (by decide +kernel)) (fun _ _ _ _ _ => (pg_name (i := 15) law_sc.nd rfl (Or.inl rfl))) (fun _ _ _ _ _ => pts_nil) (fun _ _ _ _ _ => by exact (pe_callD h__law_row (hr.mono (by first | decide | exact Nat.le_refl _)) (pa_cons (pv 1) (pa_cons (pv 9) (pa_cons (pv 10) (pa_cons pe_int (pa_cons pe_int pa_nil))))))))
    (pss_cons (ps_setLc (i := 5) (own := [("_law_row_here", 7)]) rfl law_sc.nd rfl rfl (sw_true rfl rfl rfl (by decide +kernel)) (pi_list (pv 3)) (blkOk_by (N := law_N) (sc := defScope law_S) (by decide +kernel)) (fun _ _ _ _ _ => (pg_name (i := 7) law_sc.nd rfl (Or.inl rfl))) (fun _ _ _ _ _ => pts_nil) (fun _ _ _ _ _ => by exact (pe_callD h__law_pick (hr.mono (by first | decide | exact Nat.le_refl _)) (pa_cons (pv 1) (pa_cons (pe_lst (pa_cons (pe_callD h__law_filters (hr.mono (by first | decide | exact Nat.le_refl _)) (pa_cons (pv 9) (pa_cons (pv 7) pa_nil))) (pa_cons (pe_callTy (call_tup1 K) (by rfl) B.tuple (by decide +kernel) (pa_cons (pe_callD h__law_filters (hr.mono (by first | decide | exact Nat.le_refl _)) (pa_cons (pv 9) (pa_cons (pv 7) pa_nil))) pa_nil)) pa_nil))) pa_nil)))))
    (pss_cons (ps_setLc (i := 6) (own := [("_law_row_here", 7)]) rfl law_sc.nd rfl rfl (sw_true rfl rfl rfl (by decide +kernel)) (pi_list (pv 5)) (blkOk_by (N := law_N) (sc := defScope law_S) (by decide +kernel)) (fun _ _ _ _ _ => (pg_name (i := 7) law_sc.nd rfl (Or.inl rfl))) (fun _ _ _ _ _ => by exact pts_one (pt_val (pe_callB (call_isiK' K) (by rfl) B.isinstance (by decide +kernel) (pa_cons (pv 7) (pa_cons (pe_bltn (v := .ty "list") (by rfl) B.list (by decide +kernel) rfl) pa_nil))))) (fun _ _ _ _ _ => by exact (pv 7)))
    (pss_cons (ps_par (i := 11) (j := 12) (by rfl) law_sc.nd rfl rfl (by decide) rfl rfl (pa_cons (pe_makeD h_Table (hr.mono (by first | decide | exact Nat.le_refl _)) (pa_cons (pv 9) (pa_cons (pv 10) (pa_cons (pv 5) pa_nil)))) (pa_cons (pe_callD h__law_table (hr.mono (by first | decide | exact Nat.le_refl _)) (pa_cons (pv 9) (pa_cons (pv 10) (pa_cons (pv 4) pa_nil)))) pa_nil)) (by rfl))
    (pss_cons (ps_expr (pe_bm PySem.F.plainAttrs_list PySem.F.slot_list_append PySem.F.type_list_append mt_append (pv 5) (pa_cons pe_non pa_nil)))
    (pss_cons (ps_for PassesOwn.never rfl (pi_list (pv 6)) (pg_name (i := 7) law_sc.nd rfl (Or.inl rfl)) (pss_one (ps_expr (pe_bm PySem.F.plainAttrs_list PySem.F.slot_list_append PySem.F.type_list_append mt_append (pv 7) (pa_cons pe_int pa_nil)))))
    (pss_cons (ps_if (PW.pt (pw_or (pt_not (pt_val (pe_callD h__law_table_is (hr.mono (by first | decide | exact Nat.le_refl _)) (pa_cons (pv 11) (pa_cons (pv 9) (pa_cons (pv 10) (pa_cons (pv 3) pa_nil))))))) (pw_or1 (pt_not (pt_val (pe_callD h__law_told_rows_right (hr.mono (by first | decide | exact Nat.le_refl _)) (pa_cons (pv 11) (pa_cons (pv 9) (pa_cons (pv 10) (pa_cons (pv 3) pa_nil)))))))))) (pss_one (ps_ret pe_bl)) pss_nil)
    (pss_cons (ps_if (PW.pt (pw_or (pt_not (pt_val (pe_callD h__law_table_is (hr.mono (by first | decide | exact Nat.le_refl _)) (pa_cons (pe_op (op_binD h_d_add (hr.mono (by first | decide | exact Nat.le_refl _))) (pv 11) (pv 12)) (pa_cons (pv 9) (pa_cons (pv 10) (pa_cons (pe_op op_cat (pv 3) (pv 4)) pa_nil))))))) (pw_or1 (pt_not (pt_val (pe_callD h__law_table_is (hr.mono (by first | decide | exact Nat.le_refl _)) (pa_cons (pe_op (op_binD h_d_add (hr.mono (by first | decide | exact Nat.le_refl _))) (pv 12) (pv 11)) (pa_cons (pv 9) (pa_cons (pv 10) (pa_cons (pe_op op_cat (pv 4) (pv 3)) pa_nil)))))))))) (pss_one (ps_ret pe_bl)) pss_nil)
    (pss_cons (ps_set (i := 8) law_sc.nd rfl (Or.inl rfl) (pv 11))
    (pss_cons (ps_aug (i := 8) law_sc.nd rfl (Or.inl rfl) (pv 12) (ip_binD h_d_add h_i_add (hr.mono (by first | decide | exact Nat.le_refl _))))
    (pss_cons (ps_if (PW.pt (pw_or (pt_not (pt_val (pe_callD h__law_table_is (hr.mono (by first | decide | exact Nat.le_refl _)) (pa_cons (pv 8) (pa_cons (pv 9) (pa_cons (pv 10) (pa_cons (pe_op op_cat (pv 3) (pv 4)) pa_nil))))))) (pw_or1 (pt_not (pt_val (pe_callD h__law_table_is (hr.mono (by first | decide | exact Nat.le_refl _)) (pa_cons (pv 11) (pa_cons (pv 9) (pa_cons (pv 10) (pa_cons (pv 3) pa_nil)))))))))) (pss_one (ps_ret pe_bl)) pss_nil)
    (pss_cons (ps_if (pt_not (pt_val (pe_callD h__law_compared_right (hr.mono (by first | decide | exact Nat.le_refl _)) (pa_cons (pv 11) (pa_cons (pv 12) (pa_cons (pv 9) (pa_cons (pv 10) (pa_cons (pv 3) (pa_cons (pv 4) pa_nil))))))))) (pss_one (ps_ret pe_bl)) pss_nil)
    (pss_cons (ps_par (i := 13) (j := 14) (by rfl) law_sc.nd rfl rfl (by decide) rfl rfl (pa_cons (pe_makeD h_Table2 (hr.mono (by first | decide | exact Nat.le_refl _)) (pa_cons (pv 9) (pa_cons (pv 10) pa_nil))) (pa_cons (pe_makeD h_Table (hr.mono (by first | decide | exact Nat.le_refl _)) (pa_cons (pe_callD h__law_other (hr.mono (by first | decide | exact Nat.le_refl _)) (pa_cons (pv 1) (pa_cons (pv 9) pa_nil))) (pa_cons (pv 10) (pa_cons (pe_tup pa_nil) pa_nil)))) pa_nil)) (by rfl))
    (pss_one (ps_if (PW.pt (pw_or (pt_cmpR (op_eqDun K h_d_eq (hr.mono (by first | decide | exact Nat.le_refl _))) (pv 13) (pv 14) (nomark _)) (pw_or (pt_cmpR (op_eqDun K h_d_eq (hr.mono (by first | decide | exact Nat.le_refl _))) (pv 13) (pe_makeD h_Table2 (hr.mono (by first | decide | exact Nat.le_refl _)) (pa_cons (pv 9) (pa_cons (pe_op op_add (pv 10) pe_int) pa_nil))) (nomark _)) (pw_or1 (pt_cmpR (op_neDun K h_d_eq hne hmro (hr.mono (by first | decide | exact Nat.le_refl _))) (pv 13) (pe_makeD h_Table (hr.mono (by first | decide | exact Nat.le_refl _)) (pa_cons (pv 9) (pa_cons (pv 10) (pa_cons (pe_lst pa_nil) pa_nil)))) (nomark _)))))) (pss_one (ps_ret pe_bl)) pss_nil))))))))))))))))))
    (pss_one (ps_ret pe_bl)))), ?_⟩
    refine ⟨_, rfl, ⟨a, ns, rfl, hsq, hns, fun s q H1 hs0 hq0 ex1 spr0 => ?_⟩⟩
    show tSeq _ _ _ (S16 (.some (.ref a)) (.some (.ref s)) none none none none none none none none none none none none none none) H1
    have A0 : At2 s q (fun _ => none) H1 0 := ⟨fun _ _ z => (nomatch z), rfl, rfl, spr0⟩
    refine q_forS (K := K) (O := ObO K CF C_Table) (src_r1 (O := ObO K CF C_Table) (ea_cons ev_c ea_nil) ⟨by decide, by decide⟩) A0.e (fun i σ' G' H' => (∃ x2 x3 x4 x5 x6 x7 x8 x9 x10 x11 x12 x13 x14 x15, σ' = S16 (.some (.ref a)) (.some (.ref s)) x2 x3 x4 x5 x6 x7 x8 x9 x10 x11 x12 x13 x14 x15) ∧ At2 s q G' H' (2000 * i)) (fun G0 H0 l0 => ⟨⟨_, _, _, _, _, _, _, _, _, _, _, _, _, _, rfl⟩, A0.le l0⟩) ?_ ?_
    · rintro G0 i d x σ' Gi Hi Gi' Hi' e0 hd e1 e2 ⟨⟨x2, x3, x4, x5, x6, x7, x8, x9, x10, x11, x12, x13, x14, x15, rfl⟩, Ai⟩ l' ad N hN
      have hi8 : i < 5 := by
        have := (List.getElem?_eq_some_iff.mp hd).1
        simpa [rngD] using this
      have A := Ai.le l'
      clear ad hd
      refine x_call A.e A.gs A.gq A.spr (by omega) (i := 1) rfl eda_nil rfl fun dp vp G2 H2 ⟨p, hdp, hp⟩ l2 sp2 ap => ?_
      subst hdp
      obtain rfl := at_int.mp ap
      have A2 := A.go l2 sp2
      have hp1 := prime_lt hp
      refine x_call A2.e A2.gs A2.gq A2.spr (by omega) (i := 1) rfl (eda_int (K := K) (O := ObO K CF C_Table) ev_c) ⟨4, rfl, by decide, by decide⟩ fun dd vd G3 H3 ⟨m', z, hm', hdd, hz0, hz1⟩ l3 sp3 ad => ?_
      obtain rfl : 4 = m' := D.int.inj (List.cons.inj hm').1
      subst hdd
      obtain rfl := at_int.mp ad
      have A3 := A2.go l3 sp3
      clear ad hm' ap
      refine ⟨1, z, rfl, rfl, ?_⟩
      refine ⟨by show 2 ≤ sizeLine; exact sz_of (by decide), fun tp htp => ?_⟩
      have l4 := Le.new (o := .tup [.int p, .int (1 + z)]) A3.e htp
      have A4 := A3.le l4
      refine tg_pair (K := K) (O := ObO K CF C_Table) (d1 := .int p) (d2 := .int (1 + z)) (at_tup.mpr ⟨tp, _, rfl, st_of upd_same, atL_cons.mpr ⟨_, _, rfl, at_int.mpr rfl, AtL.one (at_int.mpr rfl)⟩⟩) A4.e fun y1 y2 b1 b2 => ?_
      obtain rfl := at_int.mp b1
      obtain rfl := at_int.mp b2
      generalize hwd : 1 + z = wd
      have hw : 1 ≤ wd ∧ wd ≤ 4 := by omega
      dsimp only
      show tSeq _ _ _ (S16 (.some (.ref a)) (.some (.ref s)) (.some x) x3 x4 x5 x6 x7 x8 (.some (.int p)) (.some (.int wd)) x11 x12 x13 x14 x15) _
      have eA : Ex Gi' _ := (l2.g.trans l3.g).trans l4.g
      refine q_asgT (x_rows (wd := wd) hp (by omega) (m := 5) (by decide) (by omega) A4 _ fun o1 v1 G5 H5 ho1 ok1 l5 sp5 a1 => ?_)
      have A5 := A4.go l5 sp5
      show tSeq _ _ _ (S16 (.some (.ref a)) (.some (.ref s)) (.some x) (.some v1) x4 x5 x6 x7 x8 (.some (.int p)) (.some (.int wd)) x11 x12 x13 x14 x15) H5
      refine q_asgT (x_rows (wd := wd) hp (by omega) (m := 3) (by decide) (by omega) A5 _ fun o2 v2 G6 H6 ho2 ok2 l6 sp6 a2 => ?_)
      have A6 := A5.go l6 sp6
      have a1 := a1.mono l6.g
      have eB := (eA.trans l5.g).trans l6.g
      have k1 : OkT p wd o1 := ⟨hp, hw.1, by omega, by omega, ok1⟩
      have k2 : OkT p wd o2 := ⟨hp, hw.1, by omega, by omega, ok2⟩
      show tSeq _ _ _ (S16 (.some (.ref a)) (.some (.ref s)) (.some x) (.some v1) (.some v2) x5 x6 x7 x8 (.some (.int p)) (.some (.int wd)) x11 x12 x13 x14 x15) H6
      have hsP : Src K (O2 K CF C_Table H6) (iList K (tVar 3)) (S16 (.some (.ref a)) (.some (.ref s)) (.some x) (.some v1) (.some v2) x5 x6 x7 x8 (.some (.int p)) (.some (.int wd)) x11 x12 x13 x14 x15) G6 (dmapL Sum.inl (o1.map rD)) := src_lift (f := Sum.inl) lifts_inl (src_list (ed_var (i := 3) rfl a1))
      refine q_asgT (x_lcX (K := K) (O := O2 K CF C_Table H6) (add := 1) (fun i d => ∃ r, o1[i]? = some r ∧ (d = .obj (.inr (fR p r)) ∨ d = dmap Sum.inl (rwD (fR p r)))) hsP (by rw [dmapL_len, List.length_map]; omega) A6 (fun j d y Gj Hj hj hdj lx Aj adj Q' hQ => ?_) _ fun Dp Gz H7 us es hDp l7 sp7 gn as7 hl7 hes => ?_)
      · rw [dmapL_len, List.length_map] at hj
        rw [dmapL_map, List.getElem?_map] at hdj
        obtain ⟨r, hr', rfl⟩ := Option.map_eq_some_iff.mp hdj
        have hm := List.mem_of_getElem? hr'
        have adj : At K (ObO K CF C_Table) Gj (rD r) y := (at_dmap (f := Sum.inl) (O' := O2 K CF C_Table H6) lifts_inl).mp adj
        refine hQ (S16 (.some (.ref a)) (.some (.ref s)) (.some x) (.some v1) (.some v2) x5 x6 (.some y) x8 (.some (.int p)) (.some (.int wd)) x11 x12 x13 x14 x15) Hj (Ex.refl _) rfl et_yes fun H8 Q8 lx8 A8 k8 => ?_
        have hargs : ∀ {G'}, Ex Gj G' → EvDA K (ObO K CF C_Table) (tCons (tVar 9) (tCons (tVar 7) tNil)) (S16 (.some (.ref a)) (.some (.ref s)) (.some x) (.some v1) (.some v2) x5 x6 (.some y) x8 (.some (.int p)) (.some (.int wd)) x11 x12 x13 x14 x15) G' [.int p, rD r] := fun eg => eda_cons (ed_of (ev_var (i := 9) rfl) (at_int.mpr rfl)) (eda_cons (ed_var (i := 7) rfl (adj.mono eg)) eda_nil)
        refine ⟨.ref s, rfl, ?_⟩
        refine x_filsN hp (k1.row hm) (ok1 r hm).2 (hargs (Ex.refl _)) H8 A8.e _ fun la G9 H9 hla l9 al9 => ?_
        refine ed_tup1 (K := K) (O := ObO K CF C_Table) (d := rwL (fR p r)) (l := (fR p r).map fo) (Or.inl rfl) (ed_filsN hp (k1.row hm) (ok1 r hm).2 (hargs l9.g)) H9 l9.e _ fun vt G10 H10 l10 at10 => ?_
        refine ⟨by show 2 ≤ sizeLine; exact sz_of (by decide), fun fl hfl => ?_⟩
        have l910 := l9.trans l10
        have l11 := Le.new (o := .lst [.ref la, vt]) l10.e hfl
        have lall := l910.trans l11
        have A11 := A8.le lall
        obtain ⟨la', ws, hq, hws, aws⟩ := at_lst.mp al9
        obtain rfl := V.ref.inj hq
        have hfl2 : At K (O2 K CF C_Table H6) (upd G10 fl (.lst [.ref la, vt])) (.lst [.obj (.inr (fR p r)), dmap Sum.inl (rwD (fR p r))]) (.ref fl) :=
          at_lst.mpr ⟨fl, _, rfl, upd_same, atL_cons.mpr ⟨_, _, rfl, at_obj.mpr ⟨la, rfl, ws, (l10.g.trans l11.g) _ _ hws, aws.mono (l10.g.trans l11.g), lx8.back hla⟩, AtL.one ((at_dmap (f := Sum.inl) (O' := O2 K CF C_Table H6) lifts_inl).mpr (at10.mono l11.g))⟩⟩
        refine ⟨_, O2 K CF C_Table H6, _, s, q, _, [.lst [.obj (.inr (fR p r)), dmap Sum.inl (rwD (fR p r))]], [.ref fl], rfl, A11.e, A11.gs, A11.gq, A11.spr, ?hn, AtL.one hfl2, ⟨_, rfl, by show 0 < 2; decide, by show 2 ≤ 1000; decide⟩, fun d v G12 H12 hR l12 sp12 a12 => ?_⟩
        case hn => omega
        obtain ⟨l', hl', hd'⟩ := hR
        obtain rfl := D.lst.inj (List.cons.inj hl').1
        refine k8 d v G12 H12 ⟨r, hr', ?_⟩ (lall.x.trans l12) (by rw [Nat.mul_add, Nat.mul_one, ← Nat.add_assoc]; exact sp12) a12
        simp only [List.mem_cons, List.mem_nil_iff, or_false] at hd'
        exact hd'
      rw [dmapL_len, List.length_map] at hl7 sp7
      obtain ⟨rs, rfl, hrs⟩ := rows_of hl7 hes
      have rl : rs.length ≤ 4 := by
        rw [List.length_map] at hl7
        omega
      have A7 := A6.go l7 sp7
      have gDp : G6 Dp = none := none_of_ex A6.e hDp
      have nDp := A6.nes hDp
      have as7' := as7.mono (Ex.new (o := .lst us) gn)
      have uDp : (upd Gz Dp (.lst us)) Dp = some (.lst us) := upd_same
      have ul : us.length ≤ 4 := by rw [as7.len, List.length_map]; exact rl
      generalize hG7 : upd Gz Dp (.lst us) = G7 at l7 A7 as7' uDp
      show tSeq _ _ _ (S16 (.some (.ref a)) (.some (.ref s)) (.some x) (.some v1) (.some v2) (.some (.ref Dp)) x6 x7 x8 (.some (.int p)) (.some (.int wd)) x11 x12 x13 x14 x15) H7
      have apE : EvD K (O2 K CF C_Table H6) (tVar 5) (S16 (.some (.ref a)) (.some (.ref s)) (.some x) (.some v1) (.some v2) (.some (.ref Dp)) x6 x7 x8 (.some (.int p)) (.some (.int wd)) x11 x12 x13 x14 x15) G7 (.lst (rs.map ek)) := ed_var (i := 5) rfl (at_lst.mpr ⟨Dp, us, rfl, uDp, as7'⟩)
      refine q_asgT (x_lc (K := K) (O := O2 K CF C_Table H6) (G := G7) (wi := iList K (tVar 5)) (g := gName 7) (tt := tB (tCB (rIsi K) (tCons (tVar 7) (tCons (tC (.ty "list")) tNil)))) (te := tVar 7) (vs := [7]) isInr (fun d => d) (src_list apE) (by rw [List.length_map]; omega) (fun j d y Gj Hj hd eg eh ad Q' hQ => ?_) H7 A7.e _ fun Di G8 H8 hDi l8 al8 => ?_)
      · rw [List.getElem?_map] at hd
        obtain ⟨r, hr', rfl⟩ := Option.map_eq_some_iff.mp hd
        refine hQ _ Hj (Ex.refl _) rfl (et_is (et_B (isi_rowL K0 K1 (x := r) (ed_var (i := 7) rfl ad))) isInr_ek.symm) fun _ => ed_var (i := 7) rfl ad
      rw [List.map_id'] at al8
      obtain ⟨Di', wi, hq, hwi, awi⟩ := at_lst.mp al8
      obtain rfl := V.ref.inj hq
      have A8 := A7.le l8
      have wil : wi.length ≤ 4 := by
        rw [awi.len]
        refine Nat.le_trans (List.length_filter_le ..) ?_
        rw [List.length_map]
        exact rl
      have hin : ∀ v ∈ wi, ∃ y ws, v = .ref y ∧ G8 y = some (.lst ws) ∧ H6 y = none ∧ y ≠ Di ∧ ws.length ≤ 30000 := fun v hv => by
        obtain ⟨j, hj, rfl⟩ := List.mem_iff_getElem.mp hv
        obtain ⟨d, hd, ad⟩ := awi.get (List.getElem?_eq_getElem hj)
        have hmem := List.mem_filter.mp (List.mem_of_getElem? hd)
        obtain ⟨r, hr', rfl⟩ := List.mem_map.mp hmem.1
        have hb : r.1 = true := by rw [← isInr_ek]; exact hmem.2
        have hg : GoodR p wd r.2 := by
          have : r.2 ∈ o1.map (fR p) := by rw [← hrs]; exact List.mem_map_of_mem hr'
          obtain ⟨q', hq', hqe⟩ := List.mem_map.mp this
          rw [← hqe]
          exact fR_good (ok1 q' hq')
        obtain ⟨b, fs⟩ := r
        obtain rfl : b = true := hb
        obtain ⟨y, hy, ws, g1, g2, g3⟩ := at_obj.mp (show At K (O2 K CF C_Table H6) G8 (.obj (.inr fs)) wi[j] from ad)
        refine ⟨y, ws, hy, g1, g3, fun z => ?_, by rw [g2.len, List.length_map]; have hfs : (fs.length : Int) = wd := hg.1; omega⟩
        subst z
        rw [hwi] at g1
        obtain rfl := HO.lst.inj (Option.some.inj g1)
        obtain ⟨d', hd', ad'⟩ := g2.get (List.getElem?_eq_getElem hj)
        rw [List.getElem?_map] at hd'
        obtain ⟨f', _, rfl⟩ := Option.map_eq_some_iff.mp hd'
        obtain ⟨y', hy', dx, tp, oo, ts, kd, gg, _⟩ := at_obj.mp ad'
        rw [hy] at hy'
        obtain rfl := V.ref.inj hy'
        rw [hwi] at gg
        cases gg
      show tSeq _ _ _ (S16 (.some (.ref a)) (.some (.ref s)) (.some x) (.some v1) (.some v2) (.some (.ref Dp)) (.some (.ref Di)) x7 x8 (.some (.int p)) (.some (.int wd)) x11 x12 x13 x14 x15) H8
      have l68 : Ex G6 G8 := l7.g.trans l8.g
      have gr : ∀ r ∈ rs, GoodR p wd r.2 := fun r hr' => by
        have : r.2 ∈ o1.map (fR p) := by rw [← hrs]; exact List.mem_map_of_mem hr'
        obtain ⟨q', hq', hqe⟩ := List.mem_map.mp this
        rw [← hqe]
        exact fR_good (ok1 q' hq')
      have apO : At K (ObO K CF C_Table) G8 (.lst (rs.map rk)) (.ref Dp) := at_lst.mpr ⟨Dp, us, rfl, l8.g _ _ uDp, eks_at (as7'.mono l8.g)⟩
      have hpE : EvD K (ObO K CF C_Table) (tVar 9) (S16 (.some (.ref a)) (.some (.ref s)) (.some x) (.some v1) (.some v2) (.some (.ref Dp)) (.some (.ref Di)) x7 x8 (.some (.int p)) (.some (.int wd)) x11 x12 x13 x14 x15) G8 (.int p) := ed_var rfl (at_int.mpr rfl)
      have hwE : EvD K (ObO K CF C_Table) (tVar 10) (S16 (.some (.ref a)) (.some (.ref s)) (.some x) (.some v1) (.some v2) (.some (.ref Dp)) (.some (.ref Di)) x7 x8 (.some (.int p)) (.some (.int wd)) x11 x12 x13 x14 x15) G8 (.int wd) := ed_var rfl (at_int.mpr rfl)
      have htE := ed_tmake (K := K) (CF := CF) (CT := C_Table) (E := E0) (σ := S16 (.some (.ref a)) (.some (.ref s)) (.some x) (.some v1) (.some v2) (.some (.ref Dp)) (.some (.ref Di)) x7 x8 (.some (.int p)) (.some (.int wd)) x11 x12 x13 x14 x15) (eda_cons hpE (eda_cons hwE (eda_cons (ed_var (i := 5) rfl apO) eda_nil))) hp hw.1 (by omega) ⟨Or.inl rfl, gr⟩ (by omega)
      rw [show (⟨p, wd, rs.map (·.2)⟩ : TabS) = tT p wd o1 by unfold tT; rw [hrs]] at htE
      refine q_parD (K := K) (O := ObO K CF C_Table) (d1 := .obj (.tab (tT p wd o1))) (d2 := .obj (.tab (tT p wd o2))) (eda_cons htE (eda_cons (ed_call (eda_cons hpE (eda_cons hwE (eda_cons (ed_var (i := 4) rfl (a2.mono l68)) eda_nil))) ⟨p, wd, o2, rfl, k2, rfl⟩) eda_nil)) A8.e fun vt vu G9 H9 l9 at9 au9 => ?_
      have A9 := A8.le l9
      have g69 : Ex G6 G9 := l68.trans l9.g
      show tSeq _ _ _ (S16 (.some (.ref a)) (.some (.ref s)) (.some x) (.some v1) (.some v2) (.some (.ref Dp)) (.some (.ref Di)) x7 x8 (.some (.int p)) (.some (.int wd)) (.some vt) (.some vu) x13 x14 x15) H9
      have B9 := A9.keepG g69
      have at' : At K (ObO K CF C_Table) (keepG G6 G9) (.obj (.tab (tT p wd o1))) vt := (ob_nol at9).mono (keepG_r g69)
      have au' : At K (ObO K CF C_Table) (keepG G6 G9) (.obj (.tab (tT p wd o2))) vu := (ob_nol au9).mono (keepG_r g69)
      have a1' : At K (ObO K CF C_Table) (keepG G6 G9) (rsD o1) v1 := a1.mono keepG_l
      have a2' : At K (ObO K CF C_Table) (keepG G6 G9) (rsD o2) v2 := a2.mono keepG_l
      have eK : Ex Gi' (keepG G6 G9) := eB.trans keepG_l
      have gDk : keepG G6 G9 Dp = none := keepG_lst gDp (l9.g _ _ (l8.g _ _ uDp))
      have uD9 : H9 Dp = some (.lst us) := l9.e _ _ (l9.g _ _ (l8.g _ _ uDp))
      have nDiDp : Di ≠ Dp := by
        intro z
        subst z
        rw [A7.e _ _ uDp] at hDi
        cases hDi
      have hwi9 : H9 Di = some (.lst wi) := l9.e _ _ (l9.g _ _ hwi)
      have hin9 : ∀ v ∈ wi, ∃ y ws, v = .ref y ∧ keepG G6 G9 y = none ∧ y ≠ s ∧ y ≠ q ∧ y ≠ Di ∧ H9 y = some (.lst ws) ∧ ws.length ≤ 30000 := fun v hv => by
        obtain ⟨y, ws, rfl, q1, q2, q3, q4⟩ := hin v hv
        have n := A6.nes q2
        exact ⟨y, ws, rfl, keepG_lst (none_of_ex A6.e q2) (l9.g _ _ q1), n.1, n.2, q3, l9.e _ _ (l9.g _ _ q1), q4⟩
      generalize keepG G6 G9 = Gk at B9 at' au' a1' a2' eK gDk hin9
      clear at9 au9 A9 l9 g69
      refine q_app (K := K) (l := Dp) (xs := us) uD9 (ev_var (i := 5) rfl) ev_c (by omega) fun H10 e10 => ?_
      have B10 := (B9.ex e10 (Nat.le_refl _)).mut (o := .lst (us ++ [.non])) gDk nDp.1 nDp.2
      have hwi10 : (upd H10 Dp (.lst (us ++ [.non]))) Di = some (.lst wi) := by rw [upd_ne nDiDp]; exact e10 _ _ hwi9
      have hin10 : ∀ v ∈ wi, ∃ y ws, v = .ref y ∧ Gk y = none ∧ y ≠ s ∧ y ≠ q ∧ y ≠ Di ∧ (upd H10 Dp (.lst (us ++ [.non]))) y = some (.lst ws) ∧ ws.length ≤ 30000 + 0 := fun v hv => by
        obtain ⟨y, ws, rfl, q1, q2, q3, q4, q5, q6⟩ := hin9 v hv
        by_cases z : y = Dp
        · subst z
          exact ⟨y, _, rfl, q1, q2, q3, q4, upd_same, by rw [List.length_append]; show us.length + 1 ≤ _; omega⟩
        · exact ⟨y, ws, rfl, q1, q2, q3, q4, by rw [upd_ne z]; exact e10 _ _ q5, by omega⟩
      generalize upd H10 Dp (.lst (us ++ [.non])) = H11 at B10 hwi10 hin10
      refine q_forL (K := K) (a := Di) (xs := wi) (ev_var (i := 6) rfl) (sq_of hwi10) (fun j σ' H' => (∃ x7', σ' = S16 (.some (.ref a)) (.some (.ref s)) (.some x) (.some v1) (.some v2) (.some (.ref Dp)) (.some (.ref Di)) x7' x8 (.some (.int p)) (.some (.int wd)) (.some vt) (.some vu) x13 x14 x15) ∧ At2 s q Gk H' (2000 * i + 1 + 1 + 501 + 501 + 1 * o1.length) ∧ H' Di = some (.lst wi) ∧ ∀ v ∈ wi, ∃ y ws, v = .ref y ∧ Gk y = none ∧ y ≠ s ∧ y ≠ q ∧ y ≠ Di ∧ H' y = some (.lst ws) ∧ ws.length ≤ 30000 + j)
        (fun H1 e1 => ⟨⟨_, rfl⟩, B10.ex e1 (Nat.le_refl _), e1 _ _ hwi10, fun v hv => ?_⟩) (fun j σ' H' hj pv => sq_of pv.2.2.1) (fun j y σ' H' hy pv => ?_) (fun σ' H12 pv => ?_)
      · obtain ⟨y, ws, q0, q1, q2, q3, q4, q5, q6⟩ := hin10 v hv
        exact ⟨y, ws, q0, q1, q2, q3, q4, e1 _ _ q5, q6⟩
      · obtain ⟨⟨x7', rfl⟩, Bj, hwj, hvj⟩ := pv
        obtain ⟨z, ws, rfl, q1, q2, q3, q4, q5, q6⟩ := hvj y (List.mem_of_getElem? hy)
        have hj4 : j < 4 := Nat.lt_of_lt_of_le (List.getElem?_eq_some_iff.mp hy).1 wil
        show tDrop (tBM K "list" rAppend (tVar 7) (tCons (tC (.int 5)) tNil)) _ (S16 (.some (.ref a)) (.some (.ref s)) (.some x) (.some v1) (.some v2) (.some (.ref Dp)) (.some (.ref Di)) (.some (.ref z)) x8 (.some (.int p)) (.some (.int wd)) (.some vt) (.some vu) x13 x14 x15) H'
        refine s_app (K := K) (l := z) q5 (ev_var (i := 7) rfl) ev_c (by omega) fun H1 e1 => ?_
        refine ⟨⟨_, rfl⟩, (Bj.ex e1 (Nat.le_refl _)).mut q1 q2 q3, by rw [upd_ne (Ne.symm q4)]; exact e1 _ _ hwj, fun v hv => ?_⟩
        obtain ⟨z', zs, p0, p1, p2, p3, p4, p5, p6⟩ := hvj v hv
        by_cases hzy : z' = z
        · subst hzy
          exact ⟨z', _, p0, p1, p2, p3, p4, upd_same, by rw [List.length_append]; show ws.length + 1 ≤ _; omega⟩
        · exact ⟨z', zs, p0, p1, p2, p3, p4, by rw [upd_ne hzy]; exact e1 _ _ p5, by omega⟩
      · obtain ⟨⟨x7', rfl⟩, B12, _, _⟩ := pv
        clear hin hin9 hin10 hwi10 B10 B9 hwi9 uD9
        have h11 : ∀ {G'}, Ex Gk G' → ∀ y8 y13 y14, EvD K (ObO K CF C_Table) (tVar 11) (S16 (.some (.ref a)) (.some (.ref s)) (.some x) (.some v1) (.some v2) (.some (.ref Dp)) (.some (.ref Di)) x7' y8 (.some (.int p)) (.some (.int wd)) (.some vt) (.some vu) y13 y14 x15) G' (.obj (.tab (tT p wd o1))) := fun eg _ _ _ => ed_var rfl (at'.mono eg)
        have h12 : ∀ {G'}, Ex Gk G' → ∀ y8 y13 y14, EvD K (ObO K CF C_Table) (tVar 12) (S16 (.some (.ref a)) (.some (.ref s)) (.some x) (.some v1) (.some v2) (.some (.ref Dp)) (.some (.ref Di)) x7' y8 (.some (.int p)) (.some (.int wd)) (.some vt) (.some vu) y13 y14 x15) G' (.obj (.tab (tT p wd o2))) := fun eg _ _ _ => ed_var rfl (au'.mono eg)
        have h3 : ∀ {G'}, Ex Gk G' → ∀ y8 y13 y14, EvD K (ObO K CF C_Table) (tVar 3) (S16 (.some (.ref a)) (.some (.ref s)) (.some x) (.some v1) (.some v2) (.some (.ref Dp)) (.some (.ref Di)) x7' y8 (.some (.int p)) (.some (.int wd)) (.some vt) (.some vu) y13 y14 x15) G' (rsD o1) := fun eg _ _ _ => ed_var rfl (a1'.mono eg)
        have h4 : ∀ {G'}, Ex Gk G' → ∀ y8 y13 y14, EvD K (ObO K CF C_Table) (tVar 4) (S16 (.some (.ref a)) (.some (.ref s)) (.some x) (.some v1) (.some v2) (.some (.ref Dp)) (.some (.ref Di)) x7' y8 (.some (.int p)) (.some (.int wd)) (.some vt) (.some vu) y13 y14 x15) G' (rsD o2) := fun eg _ _ _ => ed_var rfl (a2'.mono eg)
        have h9 : ∀ G' y8 y13 y14, EvD K (ObO K CF C_Table) (tVar 9) (S16 (.some (.ref a)) (.some (.ref s)) (.some x) (.some v1) (.some v2) (.some (.ref Dp)) (.some (.ref Di)) x7' y8 (.some (.int p)) (.some (.int wd)) (.some vt) (.some vu) y13 y14 x15) G' (.int p) := fun _ _ _ _ => ed_var rfl (at_int.mpr rfl)
        have h10 : ∀ G' y8 y13 y14, EvD K (ObO K CF C_Table) (tVar 10) (S16 (.some (.ref a)) (.some (.ref s)) (.some x) (.some v1) (.some v2) (.some (.ref Dp)) (.some (.ref Di)) x7' y8 (.some (.int p)) (.some (.int wd)) (.some vt) (.some vu) y13 y14 x15) G' (.int wd) := fun _ _ _ _ => ed_var rfl (at_int.mpr rfl)
        have k12 := k1.app k2 (by omega)
        have k21 := k2.app k1 (by omega)
        have eR := Ex.refl Gk
        refine q_skip (et_is (et_or (et_not (et_ofD (ed_call (d := .bl true) (eda_cons (h11 eR _ _ _) (eda_cons (h9 _ _ _ _) (eda_cons (h10 _ _ _ _) (eda_cons (h3 eR _ _ _) eda_nil)))) ⟨p, wd, o1, rfl, k1, rfl⟩))) fun _ => et_not (et_ofD (ed_call (d := .bl true) (eda_cons (h11 eR _ _ _) (eda_cons (h9 _ _ _ _) (eda_cons (h10 _ _ _ _) (eda_cons (h3 eR _ _ _) eda_nil)))) ⟨p, wd, o1, rfl, k1, rfl⟩))) rfl) B12.e fun H13 l13 => ?_
        have A13 := B12.le l13
        have hs12 := ed_binI (R := rAddT) (T := obC CF C_Table) (w := .tab (tT p wd o1)) (u := .tab (tT p wd o2)) hi rfl rfl (h11 eR x8 x13 x14) (h12 eR _ _ _) (add_rel k1 k2 (by omega))
        have hs21 := ed_binI (R := rAddT) (T := obC CF C_Table) (w := .tab (tT p wd o2)) (u := .tab (tT p wd o1)) hi rfl rfl (h12 eR x8 x13 x14) (h11 eR _ _ _) (add_rel k2 k1 (by omega))
        have hc12 : ∀ {G'}, Ex Gk G' → ∀ y8 y13 y14, EvD K (ObO K CF C_Table) (tOp rCat (tVar 3) (tVar 4)) (S16 (.some (.ref a)) (.some (.ref s)) (.some x) (.some v1) (.some v2) (.some (.ref Dp)) (.some (.ref Di)) x7' y8 (.some (.int p)) (.some (.int wd)) (.some vt) (.some vu) y13 y14 x15) G' (rsD (o1 ++ o2)) := fun eg y8 y13 y14 => by
          have := ed_cat (h3 eg y8 y13 y14) (h4 eg _ _ _) (by rw [List.length_map, List.length_map]; omega)
          rw [← List.map_append] at this
          exact this
        have hc21 : ∀ {G'}, Ex Gk G' → ∀ y8 y13 y14, EvD K (ObO K CF C_Table) (tOp rCat (tVar 4) (tVar 3)) (S16 (.some (.ref a)) (.some (.ref s)) (.some x) (.some v1) (.some v2) (.some (.ref Dp)) (.some (.ref Di)) x7' y8 (.some (.int p)) (.some (.int wd)) (.some vt) (.some vu) y13 y14 x15) G' (rsD (o2 ++ o1)) := fun eg y8 y13 y14 => by
          have := ed_cat (h4 eg y8 y13 y14) (h3 eg _ _ _) (by rw [List.length_map, List.length_map]; omega)
          rw [← List.map_append] at this
          exact this
        refine q_skip (et_is (et_or (et_not (et_ofD (ed_call (d := .bl true) (eda_cons hs12 (eda_cons (h9 _ _ _ _) (eda_cons (h10 _ _ _ _) (eda_cons (hc12 eR _ _ _) eda_nil)))) ⟨p, wd, o1 ++ o2, rfl, k12, rfl⟩))) fun _ => et_not (et_ofD (ed_call (d := .bl true) (eda_cons hs21 (eda_cons (h9 _ _ _ _) (eda_cons (h10 _ _ _ _) (eda_cons (hc21 eR _ _ _) eda_nil)))) ⟨p, wd, o2 ++ o1, rfl, k21, rfl⟩))) rfl) A13.e fun H14 l14 => ?_
        have A14 := A13.le l14
        refine q_asgV (v := vt) (ev_var (i := 11) rfl) A14.e fun H15 l15 => ?_
        have A15 := A14.le l15
        show tSeq _ _ _ (S16 (.some (.ref a)) (.some (.ref s)) (.some x) (.some v1) (.some v2) (.some (.ref Dp)) (.some (.ref Di)) x7' (.some vt) (.some (.int p)) (.some (.int wd)) (.some vt) (.some vu) x13 x14 x15) H15
        refine q_augO (K := K) (O := ObO K CF C_Table) (R := rAddT) (T := obC CF C_Table) (w := .tab (tT p wd o1)) (u := .tab (tT p wd o2)) (i := 8) (v := vt) hi rfl rfl rfl at' (h12 eR _ _ _) (add_rel k1 k2 (by omega)) A15.e fun vv G16 H16 l16 av => ?_
        have A16 := A15.le l16
        have e16 := l16.g
        show tSeq _ _ _ (S16 (.some (.ref a)) (.some (.ref s)) (.some x) (.some v1) (.some v2) (.some (.ref Dp)) (.some (.ref Di)) x7' (.some vv) (.some (.int p)) (.some (.int wd)) (.some vt) (.some vu) x13 x14 x15) H16
        refine q_skip (et_is (et_or (et_not (et_ofD (ed_call (d := .bl true) (eda_cons (d := .obj (.tab (tT p wd (o1 ++ o2)))) (ed_var (i := 8) rfl av) (eda_cons (h9 _ _ _ _) (eda_cons (h10 _ _ _ _) (eda_cons (hc12 e16 _ _ _) eda_nil)))) ⟨p, wd, o1 ++ o2, rfl, k12, rfl⟩))) fun _ => et_not (et_ofD (ed_call (d := .bl true) (eda_cons (h11 e16 _ _ _) (eda_cons (h9 _ _ _ _) (eda_cons (h10 _ _ _ _) (eda_cons (h3 e16 _ _ _) eda_nil)))) ⟨p, wd, o1, rfl, k1, rfl⟩))) rfl) A16.e fun H17 l17 => ?_
        have A17 := A16.le l17
        refine q_skip (et_is (et_not (et_ofD (ed_call (d := .bl true) (eda_cons (h11 e16 _ _ _) (eda_cons (h12 e16 _ _ _) (eda_cons (h9 _ _ _ _) (eda_cons (h10 _ _ _ _) (eda_cons (h3 e16 _ _ _) (eda_cons (h4 e16 _ _ _) eda_nil)))))) ⟨p, wd, o1, o2, rfl, k1, k2, by omega, rfl⟩))) rfl) A17.e fun H18 l18 => ?_
        have A18 := A17.le l18
        refine q_parT (ed_tmake2 (K := K) (CF := CF) (CT := C_Table) (E := E0) (p := p) (wd := wd) (a0 := a0) (G := G16) (σ := S16 (.some (.ref a)) (.some (.ref s)) (.some x) (.some v1) (.some v2) (.some (.ref Dp)) (.some (.ref Di)) x7' (.some vv) (.some (.int p)) (.some (.int wd)) (.some vt) (.some vu) x13 x14 x15) (t := tCons (tVar 9) (tCons (tVar 10) tNil)) (eda_cons (h9 _ _ _ _) (eda_cons (h10 _ _ _ _) eda_nil)) hp hw.1 (by omega) h0 H18 A18.e _ fun ve G19 H19 l19 ae => ?_)
        have A19 := A18.le l19
        refine x_strange (wd := wd) hp (by omega) (by omega) A19 _ fun p' vs G21 H21 hp' hpne l21 sp21 as' => ?_
        have A21 := A19.go l21 sp21
        have e21 := (e16.trans l19.g).trans l21.g
        have ae := ae.mono l21.g
        refine ⟨ve, vs, rfl, ?_⟩
        show tIfS _ _ _ _ (S16 (.some (.ref a)) (.some (.ref s)) (.some x) (.some v1) (.some v2) (.some (.ref Dp)) (.some (.ref Di)) x7' (.some vv) (.some (.int p)) (.some (.int wd)) (.some vt) (.some vu) (.some ve) (.some vs) x15) H21
        have h13 : EvD K (ObO K CF C_Table) (tVar 13) (S16 (.some (.ref a)) (.some (.ref s)) (.some x) (.some v1) (.some v2) (.some (.ref Dp)) (.some (.ref Di)) x7' (.some vv) (.some (.int p)) (.some (.int wd)) (.some vt) (.some vu) (.some ve) (.some vs) x15) G21 (.obj (.tab ⟨p, wd, []⟩)) := ed_var rfl ae
        have h14 : EvD K (ObO K CF C_Table) (tVar 14) (S16 (.some (.ref a)) (.some (.ref s)) (.some x) (.some v1) (.some v2) (.some (.ref Dp)) (.some (.ref Di)) x7' (.some vv) (.some (.int p)) (.some (.int wd)) (.some vt) (.some vu) (.some ve) (.some vs) x15) G21 (.obj (.tab ⟨p', wd, []⟩)) := ed_var rfl as'
        have hM2 := ed_tmake2 (K := K) (CF := CF) (CT := C_Table) (E := E0) (p := p) (wd := wd + 1) (a0 := a0) (G := G21) (σ := S16 (.some (.ref a)) (.some (.ref s)) (.some x) (.some v1) (.some v2) (.some (.ref Dp)) (.some (.ref Di)) x7' (.some vv) (.some (.int p)) (.some (.int wd)) (.some vt) (.some vu) (.some ve) (.some vs) x15) (t := tCons (tVar 9) (tCons (tOp (rI0 fun i j => V.int (i + j)) (tVar 10) (tC (.int 1))) tNil)) (eda_cons (h9 _ _ _ _) (eda_cons (ed_of (ev_op (ev_var (i := 10) rfl) ev_c rv_I0) (at_int.mpr rfl)) eda_nil)) hp (by omega) (by omega) h0
        have hM3 := ed_tmake (K := K) (CF := CF) (CT := C_Table) (E := E0) (p := p) (wd := wd) (G := G21) (σ := S16 (.some (.ref a)) (.some (.ref s)) (.some x) (.some v1) (.some v2) (.some (.ref Dp)) (.some (.ref Di)) x7' (.some vv) (.some (.int p)) (.some (.int wd)) (.some vt) (.some vu) (.some ve) (.some vs) x15) (t := tCons (tVar 9) (tCons (tVar 10) (tCons (tLst tNil) tNil))) (d := .lst []) (rs := []) (eda_cons (h9 _ _ _ _) (eda_cons (h10 _ _ _ _) (eda_cons (ed_lst eda_nil (by show 0 ≤ 100000; decide)) eda_nil))) hp hw.1 (by omega) ⟨Or.inl rfl, fun r z => nomatch z⟩ (by show 0 ≤ 30000; decide)
        refine s_ifG (b := false) (et_is (et_or (et_test (ev_eqI (T := obC CF C_Table) hi rfl oT (hnT _) h13 h14 ⟨_, _, rfl, rfl⟩)) fun _ => et_or (et_test (ev_eqI (T := obC CF C_Table) hi rfl oT (hnT _) h13 hM2 ⟨_, _, rfl, rfl⟩)) fun _ => et_test (ev_neI (T := obC CF C_Table) hi rfl oT (hnT _) h13 hM3 ⟨_, _, rfl, rfl⟩)) ?_) A21.e (fun z => nomatch z) fun _ H22 l22 => ?_
        · have q1 : eqT ⟨p, wd, []⟩ (.obj (.tab ⟨p', wd, []⟩)) = false := decide_eq_false fun z => hpne (by injection z with z1; exact z1.symm)
          have q2 : eqT ⟨p, wd, []⟩ (.obj (.tab ⟨p, wd + 1, []⟩)) = false := decide_eq_false fun z => (by injection z with _ z2; omega)
          have q3 : eqT ⟨p, wd, []⟩ (.obj (.tab ⟨p, wd, ([] : List Rw).map (·.2)⟩)) = true := decide_eq_true rfl
          have q1' : eqT ⟨p, wd, []⟩ (.obj (.tab ⟨p', wd, ([] : List Rw).map (·.2)⟩)) = false := q1
          rw [q2, q3]
          first
          | (rw [q1]; rfl)
          | (rw [q1']; rfl)
        · have A22 := A21.le l22
          exact hN _ G21 H22 (eK.trans e21) A22.e ⟨⟨_, _, _, _, _, _, _, _, _, _, _, _, _, _, rfl⟩, A22.ex (Ex.refl _) (by omega)⟩
    · rintro σ' G' H' e1 e2 ⟨⟨x2, x3, x4, x5, x6, x7, x8, x9, x10, x11, x12, x13, x14, x15, rfl⟩, Ai⟩
      exact k H'
end
end SR
set_option maxRecDepth 100000
set_option maxHeartbeats 4000000
namespace SR
open PySem PySem.Spec PyProof.Rows L2 Evl
/-! ### the end: what the top leaves -/
theorem kit_ref {K : PySem.W.Frag} {C : Addr} {x : String} {v : ClassData} (h1 : PySem.W.clsIn K C = some v) (h2 : PySem.W.typeIn K (.ref C) = some (.type "type")) (h3 : PySem.W.subIn K (.type x) (.ref C) = some false) : PySem.W.kitOne K (.type x) (.ref C) = some false := by
  show (if (Value.type x == Value.ref C) = true then some true else PySem.W.kitCls K (.type x) (.ref C)) = some false
  have e : (Value.type x == Value.ref C) = false := rfl
  rw [e, if_neg Bool.false_ne_true]
  show (if ((PySem.W.clsIn K C).isSome && PySem.W.typeIn K (.ref C) == some (.type "type")) = true then PySem.W.subIn K (.type x) (.ref C) else none) = some false
  rw [h1, h2, h3]
  rfl
theorem kit_type {K : PySem.W.Frag} {C : Addr} {T : String} (h1 : PySem.W.kitMeta T = true) (h3 : PySem.W.subIn K (.ref C) (.type T) = some false) : PySem.W.kitOne K (.ref C) (.type T) = some false := by
  show (if (Value.ref C == Value.type T) = true then some true else PySem.W.kitCls K (.ref C) (.type T)) = some false
  have e : (Value.ref C == Value.type T) = false := rfl
  rw [e, if_neg Bool.false_ne_true]
  show (if PySem.W.kitMeta T = true then PySem.W.subIn K (.ref C) (.type T) else none) = some false
  rw [h1, h3]
  rfl
theorem kit_refs {K : PySem.W.Frag} {C D : Addr} {v : ClassData} (h1 : PySem.W.clsIn K C = some v) (h2 : PySem.W.typeIn K (.ref C) = some (.type "type")) (hne : D ≠ C) (h3 : PySem.W.subIn K (.ref D) (.ref C) = some false) : PySem.W.kitOne K (.ref D) (.ref C) = some false := by
  show (if (Value.ref D == Value.ref C) = true then some true else PySem.W.kitCls K (.ref D) (.ref C)) = some false
  have e : (Value.ref D == Value.ref C) = false := by
    cases hh : (Value.ref D == Value.ref C) with
    | false => rfl
    | true => exact absurd (Value.ref.inj (beq_iff_eq.mp hh)) hne
  rw [e, if_neg Bool.false_ne_true]
  show (if ((PySem.W.clsIn K C).isSome && PySem.W.typeIn K (.ref C) == some (.type "type")) = true then PySem.W.subIn K (.ref D) (.ref C) else none) = some false
  rw [h1, h2, h3]
  rfl
theorem kit_types {K : PySem.W.Frag} {S T : String} (h0 : (Value.type S == Value.type T) = false) (h1 : PySem.W.kitMeta T = true) (h3 : PySem.W.subIn K (.type S) (.type T) = some false) : PySem.W.kitOne K (.type S) (.type T) = some false := by
  show (if (Value.type S == Value.type T) = true then some true else PySem.W.kitCls K (.type S) (.type T)) = some false
  rw [h0, if_neg Bool.false_ne_true]
  show (if PySem.W.kitMeta T = true then PySem.W.subIn K (.type S) (.type T) else none) = some false
  rw [h1, h3]
  rfl
theorem not_first {K : PySem.W.Frag} {C : Addr} {x : Value} (h : PySem.W.subIn K x (.ref C) = some false) : PySem.W.notFirst K C x = true := by
  unfold PySem.W.notFirst
  rw [h]
  simp
theorem not_first_self {K : PySem.W.Frag} {C : Addr} : PySem.W.notFirst K C (.ref C) = true := by
  unfold PySem.W.notFirst
  simp
theorem all_mk {l : PySem.W.OpenLaw} {w : World} {K : PySem.W.Frag} {h : Heap} {mg : Str → Option Value} {C aP T0 e0 fa : Addr} {C2 T1 e1 : Addr} {fCO : Addr} {fCT : Addr} {fEq : Addr} {fFB : Addr} {fFR : Addr} {fIC : Addr} {fII : Addr} {fIL : Addr} {fIP : Addr} {fIR : Addr} {fIT : Addr} {fIn : Addr} {fIn2 : Addr} {fLA : Addr} {fLB : Addr} {fLC : Addr} {fLD : Addr} {fLE : Addr} {fLF : Addr} {fLG : Addr} {fLH : Addr} {fLI : Addr} {fLK : Addr} {fLL : Addr} {fLM : Addr} {fLN : Addr} {fLO : Addr} {fLP : Addr} {fLR : Addr} {fLS : Addr} {fLT : Addr} {fLW : Addr} {fRo : Addr} {fTa : Addr} {fTe : Addr} {fTi : Addr} {fTl : Addr} {fTq : Addr} {slCO : Array (Option Value)} {slCT : Array (Option Value)} {slEq : Array (Option Value)} {slFB : Array (Option Value)} {slFR : Array (Option Value)} {slIC : Array (Option Value)} {slII : Array (Option Value)} {slIL : Array (Option Value)} {slIP : Array (Option Value)} {slIR : Array (Option Value)} {slIT : Array (Option Value)} {slIn : Array (Option Value)} {slIn2 : Array (Option Value)} {slLA : Array (Option Value)} {slLB : Array (Option Value)} {slLC : Array (Option Value)} {slLD : Array (Option Value)} {slLE : Array (Option Value)} {slLF : Array (Option Value)} {slLG : Array (Option Value)} {slLH : Array (Option Value)} {slLI : Array (Option Value)} {slLK : Array (Option Value)} {slLL : Array (Option Value)} {slLM : Array (Option Value)} {slLN : Array (Option Value)} {slLO : Array (Option Value)} {slLP : Array (Option Value)} {slLR : Array (Option Value)} {slLS : Array (Option Value)} {slLT : Array (Option Value)} {slLW : Array (Option Value)} {slP slT slE : Array (Option Value)} {slRo : Array (Option Value)} {slT1 slE1 : Array (Option Value)} {slTa : Array (Option Value)} {slTe : Array (Option Value)} {slTi : Array (Option Value)} {slTl : Array (Option Value)} {slTq : Array (Option Value)} {clsv : ClassData} {clsv2 : ClassData} {nP nT nE : Nat} {nT1 nE1 : Nat} {odCO anCO : Option Addr} {odCT anCT : Option Addr} {odEq anEq : Option Addr} {odFB anFB : Option Addr} {odFR anFR : Option Addr} {odIC anIC : Option Addr} {odII anII : Option Addr} {odIL anIL : Option Addr} {odIP anIP : Option Addr} {odIR anIR : Option Addr} {odIT anIT : Option Addr} {odIn anIn : Option Addr} {odIn2 anIn2 : Option Addr} {odLA anLA : Option Addr} {odLB anLB : Option Addr} {odLC anLC : Option Addr} {odLD anLD : Option Addr} {odLE anLE : Option Addr} {odLF anLF : Option Addr} {odLG anLG : Option Addr} {odLH anLH : Option Addr} {odLI anLI : Option Addr} {odLK anLK : Option Addr} {odLL anLL : Option Addr} {odLM anLM : Option Addr} {odLN anLN : Option Addr} {odLO anLO : Option Addr} {odLP anLP : Option Addr} {odLR anLR : Option Addr} {odLS anLS : Option Addr} {odLT anLT : Option Addr} {odLW anLW : Option Addr} {odP odT odE : Option Addr} {odRo anRo : Option Addr} {odT1 odE1 : Option Addr} {odTa anTa : Option Addr} {odTe anTe : Option Addr} {odTi anTi : Option Addr} {odTl anTl : Option Addr} {odTq anTq : Option Addr} {tP1 tP2 tP3 tP4 : Tok} {ocCO kVCO dcCO pmCO cdCO ctCO : Value} {ocCT kVCT dcCT pmCT cdCT ctCT : Value} {ocEq kVEq dcEq pmEq cdEq ctEq : Value} {ocFB kVFB dcFB pmFB cdFB ctFB : Value} {ocFR kVFR dcFR pmFR cdFR ctFR : Value} {ocIC kVIC dcIC pmIC cdIC ctIC : Value} {ocII kVII dcII pmII cdII ctII : Value} {ocIL kVIL dcIL pmIL cdIL ctIL : Value} {ocIP kVIP dcIP pmIP cdIP ctIP : Value} {ocIR kVIR dcIR pmIR cdIR ctIR : Value} {ocIT kVIT dcIT pmIT cdIT ctIT : Value} {ocIn kVIn dcIn pmIn cdIn ctIn : Value} {ocIn2 kVIn2 dcIn2 pmIn2 cdIn2 ctIn2 : Value} {ocLA kVLA dcLA pmLA cdLA ctLA : Value} {ocLB kVLB dcLB pmLB cdLB ctLB : Value} {ocLC kVLC dcLC pmLC cdLC ctLC : Value} {ocLD kVLD dcLD pmLD cdLD ctLD : Value} {ocLE kVLE dcLE pmLE cdLE ctLE : Value} {ocLF kVLF dcLF pmLF cdLF ctLF : Value} {ocLG kVLG dcLG pmLG cdLG ctLG : Value} {ocLH kVLH dcLH pmLH cdLH ctLH : Value} {ocLI kVLI dcLI pmLI cdLI ctLI : Value} {ocLK kVLK dcLK pmLK cdLK ctLK : Value} {ocLL kVLL dcLL pmLL cdLL ctLL : Value} {ocLM kVLM dcLM pmLM cdLM ctLM : Value} {ocLN kVLN dcLN pmLN cdLN ctLN : Value} {ocLO kVLO dcLO pmLO cdLO ctLO : Value} {ocLP kVLP dcLP pmLP cdLP ctLP : Value} {ocLR kVLR dcLR pmLR cdLR ctLR : Value} {ocLS kVLS dcLS pmLS cdLS ctLS : Value} {ocLT kVLT dcLT pmLT cdLT ctLT : Value} {ocLW kVLW dcLW pmLW cdLW ctLW : Value} {ocRo kVRo dcRo pmRo cdRo ctRo : Value} {ocT : Value} {ocT1 : Value} {ocTa kVTa dcTa pmTa cdTa ctTa : Value} {ocTe kVTe dcTe pmTe cdTe ctTe : Value} {ocTi kVTi dcTi pmTi cdTi ctTi : Value} {ocTl kVTl dcTl pmTl cdTl ctTl : Value} {ocTq kVTq dcTq pmTq cdTq ctTq : Value} (X : K.In h) (G : h.Ns mainGlobals mg) (hfa : mg "law" = some (.ref fa))
    (aC : PySem.W.nsIn K mainGlobals "Filter" = some (some (.ref C)))
    (pg : PySem.W.plainGet K C Str.empty = true)
    (hdi : PySem.W.hasDictIn K C = true)
    (po : PySem.W.plainOver K C = true)
    (sa : PySem.W.findIn K (.ref C) "__setattr__" = some (some (.builtin "object.__setattr__")))
    (mk : PySem.W.makesIn K C = true)
    (kc : PySem.W.keepIn K (.ref C) = true)
    (n1 : PySem.W.findIn K (.ref C) "prime" = some none)
    (n2 : PySem.W.findIn K (.ref C) "pairs" = some none)
    (n3 : PySem.W.findIn K (.ref C) "coefficients" = some none)
    (cC : PySem.W.clsIn K C = some clsv)
    (tyC : PySem.W.typeIn K (.ref C) = some (.type "type"))
    (tk_NoneType : PySem.W.subIn K (.type "NoneType") (.ref C) = some false)
    (tk_bool : PySem.W.subIn K (.type "bool") (.ref C) = some false)
    (tk_int : PySem.W.subIn K (.type "int") (.ref C) = some false)
    (tk_str : PySem.W.subIn K (.type "str") (.ref C) = some false)
    (tk_list : PySem.W.subIn K (.type "list") (.ref C) = some false)
    (tk_tuple : PySem.W.subIn K (.type "tuple") (.ref C) = some false)
    (tk_dict : PySem.W.subIn K (.type "dict") (.ref C) = some false)
    (to_int : PySem.W.subIn K (.ref C) (.type "int") = some false)
    (to_bool : PySem.W.subIn K (.ref C) (.type "bool") = some false)
    (to_list : PySem.W.subIn K (.ref C) (.type "list") = some false)
    (to_tuple : PySem.W.subIn K (.ref C) (.type "tuple") = some false)
    (tca : PySem.W.findIn K (.ref C) "__class__" = some (some (.builtin "object.__class__")))
    (tcn : PySem.W.specialIn K (.builtin "object.__class__") "__get__" = some (some (.builtin "getset_descriptor.__get__")))
    (tct : PySem.W.takesIn K (.builtin "object.__class__") = some true)
    (tcm : PySem.W.mroIn K C (.type "object") = some true)
    (z_len : PySem.W.nsIn K mainGlobals "len" = some none)
    (z_isinstance : PySem.W.nsIn K mainGlobals "isinstance" = some none)
    (z_int : PySem.W.nsIn K mainGlobals "int" = some none)
    (z_bool : PySem.W.nsIn K mainGlobals "bool" = some none)
    (z_list : PySem.W.nsIn K mainGlobals "list" = some none)
    (z_tuple : PySem.W.nsIn K mainGlobals "tuple" = some none)
    (z_dict : PySem.W.nsIn K mainGlobals "dict" = some none)
    (z_sorted : PySem.W.nsIn K mainGlobals "sorted" = some none)
    (z_enumerate : PySem.W.nsIn K mainGlobals "enumerate" = some none)
    (z_zip : PySem.W.nsIn K mainGlobals "zip" = some none)
    (z_range : PySem.W.nsIn K mainGlobals "range" = some none)
    (z_all : PySem.W.nsIn K mainGlobals "all" = some none)
    (z_any : PySem.W.nsIn K mainGlobals "any" = some none)
    (z_reversed : PySem.W.nsIn K mainGlobals "reversed" = some none)
    (z_sum : PySem.W.nsIn K mainGlobals "sum" = some none)
    (z_min : PySem.W.nsIn K mainGlobals "min" = some none)
    (z_max : PySem.W.nsIn K mainGlobals "max" = some none)
    (z_abs : PySem.W.nsIn K mainGlobals "abs" = some none)
    (aPr : PySem.W.nsIn K mainGlobals "PRIMES" = some (some (.ref aP)))
    (lP : K.lookup aP = some ⟨.type "tuple", odP, .seq #[.int 2 tP1, .int 3 tP2, .int 5 tP3, .int 7 tP4] nP, slP⟩)
    (aIn : PySem.W.findIn K (.ref C) "__init__" = some (some (.ref fIn)))
    (iIn : PySem.W.isFn K (.ref fIn) = true)
    (lIn : K.lookup fIn = some ⟨ocIn, odIn, .func (PySem.W.fnOf "__init__" "Filter.__init__" (defArgs Filter___init___S) (defBody Filter___init___S) (defScope Filter___init___S) (.ref T0) kVIn dcIn pmIn anIn cdIn ctIn), slIn⟩)
    (cIn : PySem.W.codeIn K cdIn "Filter.__init__" = true)
    (kIn : PySem.W.keepIn K (.ref fIn) = true)
    (lT : K.lookup T0 = some ⟨ocT, odT, .seq #[.ref e0] nT, slT⟩)
    (lE : K.lookup e0 = some ⟨.type "tuple", odE, .seq #[] nE, slE⟩)
    (aC2 : PySem.W.nsIn K mainGlobals "Table" = some (some (.ref C2)))
    (pg2 : PySem.W.plainGet K C2 Str.empty = true)
    (hdi2 : PySem.W.hasDictIn K C2 = true)
    (po2 : PySem.W.plainOver K C2 = true)
    (sa2 : PySem.W.findIn K (.ref C2) "__setattr__" = some (some (.builtin "object.__setattr__")))
    (mk2 : PySem.W.makesIn K C2 = true)
    (kc2 : PySem.W.keepIn K (.ref C2) = true)
    (m1 : PySem.W.findIn K (.ref C2) "prime" = some none)
    (m2 : PySem.W.findIn K (.ref C2) "width" = some none)
    (m3 : PySem.W.findIn K (.ref C2) "lines" = some none)
    (cC2 : PySem.W.clsIn K C2 = some clsv2)
    (tyC2 : PySem.W.typeIn K (.ref C2) = some (.type "type"))
    (tk2_NoneType : PySem.W.subIn K (.type "NoneType") (.ref C2) = some false)
    (tk2_bool : PySem.W.subIn K (.type "bool") (.ref C2) = some false)
    (tk2_int : PySem.W.subIn K (.type "int") (.ref C2) = some false)
    (tk2_str : PySem.W.subIn K (.type "str") (.ref C2) = some false)
    (tk2_list : PySem.W.subIn K (.type "list") (.ref C2) = some false)
    (tk2_tuple : PySem.W.subIn K (.type "tuple") (.ref C2) = some false)
    (tk2_dict : PySem.W.subIn K (.type "dict") (.ref C2) = some false)
    (to2_int : PySem.W.subIn K (.ref C2) (.type "int") = some false)
    (to2_bool : PySem.W.subIn K (.ref C2) (.type "bool") = some false)
    (to2_list : PySem.W.subIn K (.ref C2) (.type "list") = some false)
    (to2_tuple : PySem.W.subIn K (.ref C2) (.type "tuple") = some false)
    (tca2 : PySem.W.findIn K (.ref C2) "__class__" = some (some (.builtin "object.__class__")))
    (tcm2 : PySem.W.mroIn K C2 (.type "object") = some true)
    (s12 : PySem.W.subIn K (.ref C) (.ref C2) = some false)
    (s21 : PySem.W.subIn K (.ref C2) (.ref C) = some false)
    (tl : PySem.W.subIn K (.type "tuple") (.type "list") = some false)
    (z_iter : PySem.W.nsIn K mainGlobals "iter" = some none)
    (aIn2 : PySem.W.findIn K (.ref C2) "__init__" = some (some (.ref fIn2)))
    (iIn2 : PySem.W.isFn K (.ref fIn2) = true)
    (lIn2 : K.lookup fIn2 = some ⟨ocIn2, odIn2, .func (PySem.W.fnOf "__init__" "Table.__init__" (defArgs Table___init___S) (defBody Table___init___S) (defScope Table___init___S) (.ref T1) kVIn2 dcIn2 pmIn2 anIn2 cdIn2 ctIn2), slIn2⟩)
    (cIn2 : PySem.W.codeIn K cdIn2 "Table.__init__" = true)
    (kIn2 : PySem.W.keepIn K (.ref fIn2) = true)
    (lT1 : K.lookup T1 = some ⟨ocT1, odT1, .seq #[.ref e1] nT1, slT1⟩)
    (lE1 : K.lookup e1 = some ⟨.type "tuple", odE1, .seq #[] nE1, slE1⟩)
    (sf2 : PySem.W.selfFirst K C2 = true)
    (mro2 : clsv2.mro = [.ref C2, .type "object"])
    (ne2 : PySem.W.findIn K (.ref C2) "__ne__" = some (some (.builtin "object.__ne__")))
    (i1A : PySem.W.findIn K (.ref C2) (PySem.dunderI Operator.Add.info.2) = some none)
    (i2A : PySem.W.findIn K (.type "object") (PySem.dunderI Operator.Add.info.2) = some none)
    (aTe : PySem.W.findIn K (.ref C) "terms" = some (some (.ref fTe)))
    (iTe : PySem.W.isFn K (.ref fTe) = true)
    (lTe : K.lookup fTe = some ⟨ocTe, odTe, .func (PySem.W.fnOf "terms" "Filter.terms" (defArgs Filter_terms_S) (defBody Filter_terms_S) (defScope Filter_terms_S) .none kVTe dcTe pmTe anTe cdTe ctTe), slTe⟩)
    (cTe : PySem.W.codeIn K cdTe "Filter.terms" = true)
    (kTe : PySem.W.keepIn K (.ref fTe) = true)
    (aEq : PySem.W.findIn K (.ref C) "__eq__" = some (some (.ref fEq)))
    (iEq : PySem.W.isFn K (.ref fEq) = true)
    (jEq : PySem.W.fnIn K fEq = true)
    (lEq : K.lookup fEq = some ⟨ocEq, odEq, .func (PySem.W.fnOf "__eq__" "Filter.__eq__" (defArgs Filter___eq___S) (defBody Filter___eq___S) (defScope Filter___eq___S) .none kVEq dcEq pmEq anEq cdEq ctEq), slEq⟩)
    (cEq : PySem.W.codeIn K cdEq "Filter.__eq__" = true)
    (kEq : PySem.W.keepIn K (.ref fEq) = true)
    (aRo : PySem.W.findIn K (.ref C2) "rows" = some (some (.ref fRo)))
    (iRo : PySem.W.isFn K (.ref fRo) = true)
    (lRo : K.lookup fRo = some ⟨ocRo, odRo, .func (PySem.W.fnOf "rows" "Table.rows" (defArgs Table_rows_S) (defBody Table_rows_S) (defScope Table_rows_S) .none kVRo dcRo pmRo anRo cdRo ctRo), slRo⟩)
    (cRo : PySem.W.codeIn K cdRo "Table.rows" = true)
    (kRo : PySem.W.keepIn K (.ref fRo) = true)
    (aTl : PySem.W.findIn K (.ref C2) "__len__" = some (some (.ref fTl)))
    (iTl : PySem.W.isFn K (.ref fTl) = true)
    (jTl : PySem.W.fnIn K fTl = true)
    (lTl : K.lookup fTl = some ⟨ocTl, odTl, .func (PySem.W.fnOf "__len__" "Table.__len__" (defArgs Table___len___S) (defBody Table___len___S) (defScope Table___len___S) .none kVTl dcTl pmTl anTl cdTl ctTl), slTl⟩)
    (cTl : PySem.W.codeIn K cdTl "Table.__len__" = true)
    (kTl : PySem.W.keepIn K (.ref fTl) = true)
    (aTi : PySem.W.findIn K (.ref C2) "__iter__" = some (some (.ref fTi)))
    (iTi : PySem.W.isFn K (.ref fTi) = true)
    (lTi : K.lookup fTi = some ⟨ocTi, odTi, .func (PySem.W.fnOf "__iter__" "Table.__iter__" (defArgs Table___iter___S) (defBody Table___iter___S) (defScope Table___iter___S) .none kVTi dcTi pmTi anTi cdTi ctTi), slTi⟩)
    (cTi : PySem.W.codeIn K cdTi "Table.__iter__" = true)
    (kTi : PySem.W.keepIn K (.ref fTi) = true)
    (aTq : PySem.W.findIn K (.ref C2) "__eq__" = some (some (.ref fTq)))
    (iTq : PySem.W.isFn K (.ref fTq) = true)
    (jTq : PySem.W.fnIn K fTq = true)
    (lTq : K.lookup fTq = some ⟨ocTq, odTq, .func (PySem.W.fnOf "__eq__" "Table.__eq__" (defArgs Table___eq___S) (defBody Table___eq___S) (defScope Table___eq___S) .none kVTq dcTq pmTq anTq cdTq ctTq), slTq⟩)
    (cTq : PySem.W.codeIn K cdTq "Table.__eq__" = true)
    (kTq : PySem.W.keepIn K (.ref fTq) = true)
    (aTa : PySem.W.findIn K (.ref C2) (PySem.dunder Operator.Add.info.2) = some (some (.ref fTa)))
    (iTa : PySem.W.isFn K (.ref fTa) = true)
    (lTa : K.lookup fTa = some ⟨ocTa, odTa, .func (PySem.W.fnOf "__add__" "Table.__add__" (defArgs Table___add___S) (defBody Table___add___S) (defScope Table___add___S) .none kVTa dcTa pmTa anTa cdTa ctTa), slTa⟩)
    (cTa : PySem.W.codeIn K cdTa "Table.__add__" = true)
    (kTa : PySem.W.keepIn K (.ref fTa) = true)
    (aII : PySem.W.nsIn K mainGlobals "is_int" = some (some (.ref fII)))
    (lII : K.lookup fII = some ⟨ocII, odII, .func (PySem.W.fnOf "is_int" "is_int" (defArgs is_int_S) (defBody is_int_S) (defScope is_int_S) .none kVII dcII pmII anII cdII ctII), slII⟩)
    (cII : PySem.W.codeIn K cdII "is_int" = true)
    (kII : PySem.W.keepIn K (.ref fII) = true)
    (aIL : PySem.W.nsIn K mainGlobals "is_list" = some (some (.ref fIL)))
    (lIL : K.lookup fIL = some ⟨ocIL, odIL, .func (PySem.W.fnOf "is_list" "is_list" (defArgs is_list_S) (defBody is_list_S) (defScope is_list_S) .none kVIL dcIL pmIL anIL cdIL ctIL), slIL⟩)
    (cIL : PySem.W.codeIn K cdIL "is_list" = true)
    (kIL : PySem.W.keepIn K (.ref fIL) = true)
    (aIP : PySem.W.nsIn K mainGlobals "is_prime" = some (some (.ref fIP)))
    (lIP : K.lookup fIP = some ⟨ocIP, odIP, .func (PySem.W.fnOf "is_prime" "is_prime" (defArgs is_prime_S) (defBody is_prime_S) (defScope is_prime_S) .none kVIP dcIP pmIP anIP cdIP ctIP), slIP⟩)
    (cIP : PySem.W.codeIn K cdIP "is_prime" = true)
    (kIP : PySem.W.keepIn K (.ref fIP) = true)
    (aIT : PySem.W.nsIn K mainGlobals "is_term" = some (some (.ref fIT)))
    (lIT : K.lookup fIT = some ⟨ocIT, odIT, .func (PySem.W.fnOf "is_term" "is_term" (defArgs is_term_S) (defBody is_term_S) (defScope is_term_S) .none kVIT dcIT pmIT anIT cdIT ctIT), slIT⟩)
    (cIT : PySem.W.codeIn K cdIT "is_term" = true)
    (kIT : PySem.W.keepIn K (.ref fIT) = true)
    (aFB : PySem.W.nsIn K mainGlobals "first_bad_term" = some (some (.ref fFB)))
    (lFB : K.lookup fFB = some ⟨ocFB, odFB, .func (PySem.W.fnOf "first_bad_term" "first_bad_term" (defArgs first_bad_term_S) (defBody first_bad_term_S) (defScope first_bad_term_S) .none kVFB dcFB pmFB anFB cdFB ctFB), slFB⟩)
    (cFB : PySem.W.codeIn K cdFB "first_bad_term" = true)
    (kFB : PySem.W.keepIn K (.ref fFB) = true)
    (aCO : PySem.W.nsIn K mainGlobals "collected" = some (some (.ref fCO)))
    (lCO : K.lookup fCO = some ⟨ocCO, odCO, .func (PySem.W.fnOf "collected" "collected" (defArgs collected_S) (defBody collected_S) (defScope collected_S) .none kVCO dcCO pmCO anCO cdCO ctCO), slCO⟩)
    (cCO : PySem.W.codeIn K cdCO "collected" = true)
    (kCO : PySem.W.keepIn K (.ref fCO) = true)
    (aIC : PySem.W.nsIn K mainGlobals "is_count" = some (some (.ref fIC)))
    (lIC : K.lookup fIC = some ⟨ocIC, odIC, .func (PySem.W.fnOf "is_count" "is_count" (defArgs is_count_S) (defBody is_count_S) (defScope is_count_S) .none kVIC dcIC pmIC anIC cdIC ctIC), slIC⟩)
    (cIC : PySem.W.codeIn K cdIC "is_count" = true)
    (kIC : PySem.W.keepIn K (.ref fIC) = true)
    (aIR : PySem.W.nsIn K mainGlobals "is_row" = some (some (.ref fIR)))
    (lIR : K.lookup fIR = some ⟨ocIR, odIR, .func (PySem.W.fnOf "is_row" "is_row" (defArgs is_row_S) (defBody is_row_S) (defScope is_row_S) .none kVIR dcIR pmIR anIR cdIR ctIR), slIR⟩)
    (cIR : PySem.W.codeIn K cdIR "is_row" = true)
    (kIR : PySem.W.keepIn K (.ref fIR) = true)
    (aFR : PySem.W.nsIn K mainGlobals "first_bad_row" = some (some (.ref fFR)))
    (lFR : K.lookup fFR = some ⟨ocFR, odFR, .func (PySem.W.fnOf "first_bad_row" "first_bad_row" (defArgs first_bad_row_S) (defBody first_bad_row_S) (defScope first_bad_row_S) .none kVFR dcFR pmFR anFR cdFR ctFR), slFR⟩)
    (cFR : PySem.W.codeIn K cdFR "first_bad_row" = true)
    (kFR : PySem.W.keepIn K (.ref fFR) = true)
    (aCT : PySem.W.nsIn K mainGlobals "check_tables" = some (some (.ref fCT)))
    (lCT : K.lookup fCT = some ⟨ocCT, odCT, .func (PySem.W.fnOf "check_tables" "check_tables" (defArgs check_tables_S) (defBody check_tables_S) (defScope check_tables_S) .none kVCT dcCT pmCT anCT cdCT ctCT), slCT⟩)
    (cCT : PySem.W.codeIn K cdCT "check_tables" = true)
    (kCT : PySem.W.keepIn K (.ref fCT) = true)
    (aLS : PySem.W.nsIn K mainGlobals "_law_spring" = some (some (.ref fLS)))
    (lLS : K.lookup fLS = some ⟨ocLS, odLS, .func (PySem.W.fnOf "_law_spring" "_law_spring" (defArgs _law_spring_S) (defBody _law_spring_S) (defScope _law_spring_S) .none kVLS dcLS pmLS anLS cdLS ctLS), slLS⟩)
    (cLS : PySem.W.codeIn K cdLS "_law_spring" = true)
    (kLS : PySem.W.keepIn K (.ref fLS) = true)
    (aLD : PySem.W.nsIn K mainGlobals "_law_draw" = some (some (.ref fLD)))
    (lLD : K.lookup fLD = some ⟨ocLD, odLD, .func (PySem.W.fnOf "_law_draw" "_law_draw" (defArgs _law_draw_S) (defBody _law_draw_S) (defScope _law_draw_S) .none kVLD dcLD pmLD anLD cdLD ctLD), slLD⟩)
    (cLD : PySem.W.codeIn K cdLD "_law_draw" = true)
    (kLD : PySem.W.keepIn K (.ref fLD) = true)
    (aLP : PySem.W.nsIn K mainGlobals "_law_pick" = some (some (.ref fLP)))
    (lLP : K.lookup fLP = some ⟨ocLP, odLP, .func (PySem.W.fnOf "_law_pick" "_law_pick" (defArgs _law_pick_S) (defBody _law_pick_S) (defScope _law_pick_S) .none kVLP dcLP pmLP anLP cdLP ctLP), slLP⟩)
    (cLP : PySem.W.codeIn K cdLP "_law_pick" = true)
    (kLP : PySem.W.keepIn K (.ref fLP) = true)
    (aLM : PySem.W.nsIn K mainGlobals "_law_same" = some (some (.ref fLM)))
    (lLM : K.lookup fLM = some ⟨ocLM, odLM, .func (PySem.W.fnOf "_law_same" "_law_same" (defArgs _law_same_S) (defBody _law_same_S) (defScope _law_same_S) .none kVLM dcLM pmLM anLM cdLM ctLM), slLM⟩)
    (cLM : PySem.W.codeIn K cdLM "_law_same" = true)
    (kLM : PySem.W.keepIn K (.ref fLM) = true)
    (aLH : PySem.W.nsIn K mainGlobals "_law_held" = some (some (.ref fLH)))
    (lLH : K.lookup fLH = some ⟨ocLH, odLH, .func (PySem.W.fnOf "_law_held" "_law_held" (defArgs _law_held_S) (defBody _law_held_S) (defScope _law_held_S) .none kVLH dcLH pmLH anLH cdLH ctLH), slLH⟩)
    (cLH : PySem.W.codeIn K cdLH "_law_held" = true)
    (kLH : PySem.W.keepIn K (.ref fLH) = true)
    (aLA : PySem.W.nsIn K mainGlobals "_law_pairs" = some (some (.ref fLA)))
    (lLA : K.lookup fLA = some ⟨ocLA, odLA, .func (PySem.W.fnOf "_law_pairs" "_law_pairs" (defArgs _law_pairs_S) (defBody _law_pairs_S) (defScope _law_pairs_S) .none kVLA dcLA pmLA anLA cdLA ctLA), slLA⟩)
    (cLA : PySem.W.codeIn K cdLA "_law_pairs" = true)
    (kLA : PySem.W.keepIn K (.ref fLA) = true)
    (aLN : PySem.W.nsIn K mainGlobals "_law_drawn" = some (some (.ref fLN)))
    (lLN : K.lookup fLN = some ⟨ocLN, odLN, .func (PySem.W.fnOf "_law_drawn" "_law_drawn" (defArgs _law_drawn_S) (defBody _law_drawn_S) (defScope _law_drawn_S) .none kVLN dcLN pmLN anLN cdLN ctLN), slLN⟩)
    (cLN : PySem.W.codeIn K cdLN "_law_drawn" = true)
    (kLN : PySem.W.keepIn K (.ref fLN) = true)
    (aLE : PySem.W.nsIn K mainGlobals "_law_made" = some (some (.ref fLE)))
    (lLE : K.lookup fLE = some ⟨ocLE, odLE, .func (PySem.W.fnOf "_law_made" "_law_made" (defArgs _law_made_S) (defBody _law_made_S) (defScope _law_made_S) .none kVLE dcLE pmLE anLE cdLE ctLE), slLE⟩)
    (cLE : PySem.W.codeIn K cdLE "_law_made" = true)
    (kLE : PySem.W.keepIn K (.ref fLE) = true)
    (aLI : PySem.W.nsIn K mainGlobals "_law_is" = some (some (.ref fLI)))
    (lLI : K.lookup fLI = some ⟨ocLI, odLI, .func (PySem.W.fnOf "_law_is" "_law_is" (defArgs _law_is_S) (defBody _law_is_S) (defScope _law_is_S) .none kVLI dcLI pmLI anLI cdLI ctLI), slLI⟩)
    (cLI : PySem.W.codeIn K cdLI "_law_is" = true)
    (kLI : PySem.W.keepIn K (.ref fLI) = true)
    (aLR : PySem.W.nsIn K mainGlobals "_law_prime" = some (some (.ref fLR)))
    (lLR : K.lookup fLR = some ⟨ocLR, odLR, .func (PySem.W.fnOf "_law_prime" "_law_prime" (defArgs _law_prime_S) (defBody _law_prime_S) (defScope _law_prime_S) .none kVLR dcLR pmLR anLR cdLR ctLR), slLR⟩)
    (cLR : PySem.W.codeIn K cdLR "_law_prime" = true)
    (kLR : PySem.W.keepIn K (.ref fLR) = true)
    (aLO : PySem.W.nsIn K mainGlobals "_law_other" = some (some (.ref fLO)))
    (lLO : K.lookup fLO = some ⟨ocLO, odLO, .func (PySem.W.fnOf "_law_other" "_law_other" (defArgs _law_other_S) (defBody _law_other_S) (defScope _law_other_S) .none kVLO dcLO pmLO anLO cdLO ctLO), slLO⟩)
    (cLO : PySem.W.codeIn K cdLO "_law_other" = true)
    (kLO : PySem.W.keepIn K (.ref fLO) = true)
    (aLW : PySem.W.nsIn K mainGlobals "_law_row" = some (some (.ref fLW)))
    (lLW : K.lookup fLW = some ⟨ocLW, odLW, .func (PySem.W.fnOf "_law_row" "_law_row" (defArgs _law_row_S) (defBody _law_row_S) (defScope _law_row_S) .none kVLW dcLW pmLW anLW cdLW ctLW), slLW⟩)
    (cLW : PySem.W.codeIn K cdLW "_law_row" = true)
    (kLW : PySem.W.keepIn K (.ref fLW) = true)
    (aLF : PySem.W.nsIn K mainGlobals "_law_filters" = some (some (.ref fLF)))
    (lLF : K.lookup fLF = some ⟨ocLF, odLF, .func (PySem.W.fnOf "_law_filters" "_law_filters" (defArgs _law_filters_S) (defBody _law_filters_S) (defScope _law_filters_S) .none kVLF dcLF pmLF anLF cdLF ctLF), slLF⟩)
    (cLF : PySem.W.codeIn K cdLF "_law_filters" = true)
    (kLF : PySem.W.keepIn K (.ref fLF) = true)
    (aLG : PySem.W.nsIn K mainGlobals "_law_row_is" = some (some (.ref fLG)))
    (lLG : K.lookup fLG = some ⟨ocLG, odLG, .func (PySem.W.fnOf "_law_row_is" "_law_row_is" (defArgs _law_row_is_S) (defBody _law_row_is_S) (defScope _law_row_is_S) .none kVLG dcLG pmLG anLG cdLG ctLG), slLG⟩)
    (cLG : PySem.W.codeIn K cdLG "_law_row_is" = true)
    (kLG : PySem.W.keepIn K (.ref fLG) = true)
    (aLT : PySem.W.nsIn K mainGlobals "_law_table_is" = some (some (.ref fLT)))
    (lLT : K.lookup fLT = some ⟨ocLT, odLT, .func (PySem.W.fnOf "_law_table_is" "_law_table_is" (defArgs _law_table_is_S) (defBody _law_table_is_S) (defScope _law_table_is_S) .none kVLT dcLT pmLT anLT cdLT ctLT), slLT⟩)
    (cLT : PySem.W.codeIn K cdLT "_law_table_is" = true)
    (kLT : PySem.W.keepIn K (.ref fLT) = true)
    (aLB : PySem.W.nsIn K mainGlobals "_law_table" = some (some (.ref fLB)))
    (lLB : K.lookup fLB = some ⟨ocLB, odLB, .func (PySem.W.fnOf "_law_table" "_law_table" (defArgs _law_table_S) (defBody _law_table_S) (defScope _law_table_S) .none kVLB dcLB pmLB anLB cdLB ctLB), slLB⟩)
    (cLB : PySem.W.codeIn K cdLB "_law_table" = true)
    (kLB : PySem.W.keepIn K (.ref fLB) = true)
    (aLK : PySem.W.nsIn K mainGlobals "_law_told_rows_right" = some (some (.ref fLK)))
    (lLK : K.lookup fLK = some ⟨ocLK, odLK, .func (PySem.W.fnOf "_law_told_rows_right" "_law_told_rows_right" (defArgs _law_told_rows_right_S) (defBody _law_told_rows_right_S) (defScope _law_told_rows_right_S) .none kVLK dcLK pmLK anLK cdLK ctLK), slLK⟩)
    (cLK : PySem.W.codeIn K cdLK "_law_told_rows_right" = true)
    (kLK : PySem.W.keepIn K (.ref fLK) = true)
    (aLC : PySem.W.nsIn K mainGlobals "_law_compared_right" = some (some (.ref fLC)))
    (lLC : K.lookup fLC = some ⟨ocLC, odLC, .func (PySem.W.fnOf "_law_compared_right" "_law_compared_right" (defArgs _law_compared_right_S) (defBody _law_compared_right_S) (defScope _law_compared_right_S) .none kVLC dcLC pmLC anLC cdLC ctLC), slLC⟩)
    (cLC : PySem.W.codeIn K cdLC "_law_compared_right" = true)
    (kLC : PySem.W.keepIn K (.ref fLC) = true)
    (aLL : PySem.W.nsIn K mainGlobals "law" = some (some (.ref fLL)))
    (lLL : K.lookup fLL = some ⟨ocLL, odLL, .func (PySem.W.fnOf "law" "law" (defArgs law_S) (defBody law_S) (defScope law_S) .none kVLL dcLL pmLL anLL cdLL ctLL), slLL⟩)
    (cLL : PySem.W.codeIn K cdLL "law" = true)
    (kLL : PySem.W.keepIn K (.ref fLL) = true)
    (hCC : C ≠ C2) :
    ∃ fd : FuncData, (∀ (s : Shared) (v : Value), BindsTo s fd ⟨[v], []⟩ [("_law_script", v)]) ∧ ∀ base : Heap, K.In base → base.Ns mainGlobals mg → FnOk l.prog w K mg base CX0 10 fa fd ["_law_script"] (spLaw15 K) := by
  have e := hfa.symm.trans (PySem.W.mg_of X G aLL)
  cases e
  have mC := PySem.W.mg_of X G aC
  have B : Bi mg := ⟨PySem.W.mg_none_of X G z_len, PySem.W.mg_none_of X G z_isinstance, PySem.W.mg_none_of X G z_int, PySem.W.mg_none_of X G z_bool, PySem.W.mg_none_of X G z_list, PySem.W.mg_none_of X G z_tuple, PySem.W.mg_none_of X G z_dict, PySem.W.mg_none_of X G z_sorted, PySem.W.mg_none_of X G z_enumerate, PySem.W.mg_none_of X G z_zip, PySem.W.mg_none_of X G z_range, PySem.W.mg_none_of X G z_all, PySem.W.mg_none_of X G z_any, PySem.W.mg_none_of X G z_reversed, PySem.W.mg_none_of X G z_sum, PySem.W.mg_none_of X G z_min, PySem.W.mg_none_of X G z_max, PySem.W.mg_none_of X G z_abs⟩
  have cl : Cls K C := ⟨pg, hdi, po, sa⟩
  have c : FilC K C := ⟨cl, n1, n2, n3⟩
  have t : FilT K C := ⟨fun n hn => by
    simp only [kinds, List.mem_cons, List.mem_nil_iff, or_false] at hn
    rcases hn with rfl | rfl | rfl | rfl | rfl | rfl | rfl
    · exact kit_ref cC tyC tk_NoneType
    · exact kit_ref cC tyC tk_bool
    · exact kit_ref cC tyC tk_int
    · exact kit_ref cC tyC tk_str
    · exact kit_ref cC tyC tk_list
    · exact kit_ref cC tyC tk_tuple
    · exact kit_ref cC tyC tk_dict, kit_type (by rfl) to_int, kit_type (by rfl) to_bool, kit_type (by rfl) to_list, kit_type (by rfl) to_tuple, tca, tcn, tct, tcm⟩
  have pr : ∀ H, SqT K H aP (primes.map V.int) := fun H => Or.inr ⟨_, _, _, lP, rfl, rfl, by show 4 ≤ sizeLine; exact sz_of (by decide), .cons ⟨_, rfl⟩ (.cons ⟨_, rfl⟩ (.cons ⟨_, rfl⟩ (.cons ⟨_, rfl⟩ .nil)))⟩
  have FII := fun_mk (st := is_int_S) lII cII kII
  have FIL := fun_mk (st := is_list_S) lIL cIL kIL
  have FIP := fun_mk (st := is_prime_S) lIP cIP kIP
  have FIT := fun_mk (st := is_term_S) lIT cIT kIT
  have FFB := fun_mk (st := first_bad_term_S) lFB cFB kFB
  have FCO := fun_mk (st := collected_S) lCO cCO kCO
  have FIC := fun_mk (st := is_count_S) lIC cIC kIC
  have FIR := fun_mk (st := is_row_S) lIR cIR kIR
  have FFR := fun_mk (st := first_bad_row_S) lFR cFR kFR
  have FCT := fun_mk (st := check_tables_S) lCT cCT kCT
  have FLS := fun_mk (st := _law_spring_S) lLS cLS kLS
  have FLD := fun_mk (st := _law_draw_S) lLD cLD kLD
  have FLP := fun_mk (st := _law_pick_S) lLP cLP kLP
  have FLM := fun_mk (st := _law_same_S) lLM cLM kLM
  have FLH := fun_mk (st := _law_held_S) lLH cLH kLH
  have FLA := fun_mk (st := _law_pairs_S) lLA cLA kLA
  have FLN := fun_mk (st := _law_drawn_S) lLN cLN kLN
  have FLE := fun_mk (st := _law_made_S) lLE cLE kLE
  have FLI := fun_mk (st := _law_is_S) lLI cLI kLI
  have FLR := fun_mk (st := _law_prime_S) lLR cLR kLR
  have FLO := fun_mk (st := _law_other_S) lLO cLO kLO
  have FLW := fun_mk (st := _law_row_S) lLW cLW kLW
  have FLF := fun_mk (st := _law_filters_S) lLF cLF kLF
  have FLG := fun_mk (st := _law_row_is_S) lLG cLG kLG
  have FLT := fun_mk (st := _law_table_is_S) lLT cLT kLT
  have FLB := fun_mk (st := _law_table_S) lLB cLB kLB
  have FLK := fun_mk (st := _law_told_rows_right_S) lLK cLK kLK
  have FLC := fun_mk (st := _law_compared_right_S) lLC cLC kLC
  have FLL := fun_mk (st := law_S) lLL cLL kLL
  have FTe := fun_mk (st := Filter_terms_S) lTe cTe kTe
  have FEq := fun_mk (st := Filter___eq___S) lEq cEq kEq
  have bII := FII.binds (ps := ["thing"]) fun _ _ _ _ _ _ us hl => match us, hl with | [_], _ => rfl
  have bIL := FIL.binds (ps := ["thing"]) fun _ _ _ _ _ _ us hl => match us, hl with | [_], _ => rfl
  have bIP := FIP.binds (ps := ["thing"]) fun _ _ _ _ _ _ us hl => match us, hl with | [_], _ => rfl
  have bIT := FIT.binds (ps := ["thing"]) fun _ _ _ _ _ _ us hl => match us, hl with | [_], _ => rfl
  have bFB := FFB.binds (ps := ["terms"]) fun _ _ _ _ _ _ us hl => match us, hl with | [_], _ => rfl
  have bCO := FCO.binds (ps := ["prime", "pairs"]) fun _ _ _ _ _ _ us hl => match us, hl with | [_, _], _ => rfl
  have bIC := FIC.binds (ps := ["thing"]) fun _ _ _ _ _ _ us hl => match us, hl with | [_], _ => rfl
  have bIR := FIR.binds (ps := ["prime", "width", "thing"]) fun _ _ _ _ _ _ us hl => match us, hl with | [_, _, _], _ => rfl
  have bFR := FFR.binds (ps := ["prime", "width", "rows"]) fun _ _ _ _ _ _ us hl => match us, hl with | [_, _, _], _ => rfl
  have bCT := FCT.binds (ps := ["t", "u"]) fun _ _ _ _ _ _ us hl => match us, hl with | [_, _], _ => rfl
  have bLS := FLS.binds (ps := ["_law_script"]) fun _ _ _ _ _ _ us hl => match us, hl with | [_], _ => rfl
  have bLD := FLD.binds (ps := ["_law_spring_here", "_law_many"]) fun _ _ _ _ _ _ us hl => match us, hl with | [_, _], _ => rfl
  have bLP := FLP.binds (ps := ["_law_spring_here", "_law_things"]) fun _ _ _ _ _ _ us hl => match us, hl with | [_, _], _ => rfl
  have bLM := FLM.binds (ps := ["_law_found", "_law_due"]) fun _ _ _ _ _ _ us hl => match us, hl with | [_, _], _ => rfl
  have bLH := FLH.binds (ps := ["_law_prime_here", "_law_terms"]) fun _ _ _ _ _ _ us hl => match us, hl with | [_, _], _ => rfl
  have bLA := FLA.binds (ps := ["_law_held_here"]) fun _ _ _ _ _ _ us hl => match us, hl with | [_], _ => rfl
  have bLN := FLN.binds (ps := ["_law_spring_here", "_law_prime_here", "_law_most", "_law_reach"]) fun _ _ _ _ _ _ us hl => match us, hl with | [_, _, _, _], _ => rfl
  have bLE := FLE.binds (ps := ["_law_prime_here", "_law_held_here"]) fun _ _ _ _ _ _ us hl => match us, hl with | [_, _], _ => rfl
  have bLI := FLI.binds (ps := ["_law_f", "_law_prime_here", "_law_held_here"]) fun _ _ _ _ _ _ us hl => match us, hl with | [_, _, _], _ => rfl
  have bLR := FLR.binds (ps := ["_law_spring_here"]) fun _ _ _ _ _ _ us hl => match us, hl with | [_], _ => rfl
  have bLO := FLO.binds (ps := ["_law_spring_here", "_law_p"]) fun _ _ _ _ _ _ us hl => match us, hl with | [_, _], _ => rfl
  have bLW := FLW.binds (ps := ["_law_spring_here", "_law_p", "_law_width", "_law_most", "_law_reach"]) fun _ _ _ _ _ _ us hl => match us, hl with | [_, _, _, _, _], _ => rfl
  have bLF := FLF.binds (ps := ["_law_p", "_law_row_here"]) fun _ _ _ _ _ _ us hl => match us, hl with | [_, _], _ => rfl
  have bLG := FLG.binds (ps := ["_law_row_here", "_law_p", "_law_due"]) fun _ _ _ _ _ _ us hl => match us, hl with | [_, _, _], _ => rfl
  have bLT := FLT.binds (ps := ["_law_t", "_law_p", "_law_width", "_law_due"]) fun _ _ _ _ _ _ us hl => match us, hl with | [_, _, _, _], _ => rfl
  have bLB := FLB.binds (ps := ["_law_p", "_law_width", "_law_rows"]) fun _ _ _ _ _ _ us hl => match us, hl with | [_, _, _], _ => rfl
  have bLK := FLK.binds (ps := ["_law_t", "_law_p", "_law_width", "_law_due"]) fun _ _ _ _ _ _ us hl => match us, hl with | [_, _, _, _], _ => rfl
  have bLC := FLC.binds (ps := ["_law_t", "_law_u", "_law_p", "_law_width", "_law_one", "_law_two"]) fun _ _ _ _ _ _ us hl => match us, hl with | [_, _, _, _, _, _], _ => rfl
  have bLL := FLL.binds (ps := ["_law_script"]) fun _ _ _ _ _ _ us hl => match us, hl with | [_], _ => rfl
  have bTe := FTe.binds (ps := ["self"]) fun _ _ _ _ _ _ us hl => match us, hl with | [_], _ => rfl
  have bEq := FEq.binds (ps := ["self", "other"]) fun _ _ _ _ _ _ us hl => match us, hl with | [_, _], _ => rfl
  have FIn : FunD K "__init__" "Filter.__init__" (defArgs Filter___init___S) (defBody Filter___init___S) (defScope Filter___init___S) [.ref e0] [] fIn _ := ⟨⟨_, _, _, _, _, _, _, _, _, _, rfl, lIn, cIn, Or.inr ⟨(fun z => nomatch z), T0, _, [.ref e0], nT, rfl, lT, rfl, .cons rfl .nil⟩, Or.inl rfl⟩, kIn⟩
  have bIn0 : ∃ ds, Vals (([V.ref e0] : List V).drop 1) ds ∧ Binds K _ ["self", "prime", "terms"] ds := FIn.binds1 3 1 (fun z => nomatch z) rfl fun T kV doc pm an cdv ct us its hu hi => match us, its, hu, hi with | [_, _, _], [_], _, _ => ⟨_, rfl, rfl⟩
  refine ⟨PySem.W.fnOf "law" "law" (defArgs law_S) (defBody law_S) (defScope law_S) .none kVLL dcLL pmLL anLL cdLL ctLL, fun s v => .of_eq rfl, fun base _ _ => ?_⟩
  have dd := @defOk l.prog w K mg base
  have OKf := ot_fil c t
  have g_PR := PySem.W.mg_of X G aPr
  have hII := dd FII (PySem.W.mg_of X G aII) (ok_is_int FII B OKf) bII
  have hIL := dd FIL (PySem.W.mg_of X G aIL) (ok_is_list FIL B OKf) bIL
  have hIP := dd FIP (PySem.W.mg_of X G aIP) (ok_is_prime FIP g_PR pr hII) bIP
  have hIT := dd FIT (PySem.W.mg_of X G aIT) (ok_is_term FIT B hII hIL) bIT
  have hFB := dd FFB (PySem.W.mg_of X G aFB) (ok_first_bad_term FFB B hIT hIL) bFB
  have hCO := dd FCO (PySem.W.mg_of X G aCO) (ok_collected (O := FilO K C) FCO B) bCO
  have okI := ok_init FIn B c hIP hFB hCO
  have hF0 : MakeOk l.prog w K mg base C 4 "Filter" ["self", "prime", "terms"] [] (spInit K C) := by
    obtain ⟨ds, hv, hb⟩ := bIn0
    exact ⟨fIn, _, ds, ⟨mk, aIn, iIn, kc⟩, mC, hb, hv, okI⟩
  have FRo := fun_mk (st := Table_rows_S) lRo cRo kRo
  have bRo := FRo.binds (ps := ["self"]) fun _ _ _ _ _ _ us hl => match us, hl with | [_], _ => rfl
  have FTl := fun_mk (st := Table___len___S) lTl cTl kTl
  have bTl := FTl.binds (ps := ["self"]) fun _ _ _ _ _ _ us hl => match us, hl with | [_], _ => rfl
  have FTi := fun_mk (st := Table___iter___S) lTi cTi kTi
  have bTi := FTi.binds (ps := ["self"]) fun _ _ _ _ _ _ us hl => match us, hl with | [_], _ => rfl
  have FTq := fun_mk (st := Table___eq___S) lTq cTq kTq
  have bTq := FTq.binds (ps := ["self", "other"]) fun _ _ _ _ _ _ us hl => match us, hl with | [_, _], _ => rfl
  have FTa := fun_mk (st := Table___add___S) lTa cTa kTa
  have bTa := FTa.binds (ps := ["self", "other"]) fun _ _ _ _ _ _ us hl => match us, hl with | [_, _], _ => rfl
  have mC2 := PySem.W.mg_of X G aC2
  have cl2 : Cls K C2 := ⟨pg2, hdi2, po2, sa2⟩
  have t2 : FilT K C2 := ⟨fun n hn => by
    simp only [kinds, List.mem_cons, List.mem_nil_iff, or_false] at hn
    rcases hn with rfl | rfl | rfl | rfl | rfl | rfl | rfl
    · exact kit_ref cC2 tyC2 tk2_NoneType
    · exact kit_ref cC2 tyC2 tk2_bool
    · exact kit_ref cC2 tyC2 tk2_int
    · exact kit_ref cC2 tyC2 tk2_str
    · exact kit_ref cC2 tyC2 tk2_list
    · exact kit_ref cC2 tyC2 tk2_tuple
    · exact kit_ref cC2 tyC2 tk2_dict, kit_type (by rfl) to2_int, kit_type (by rfl) to2_bool, kit_type (by rfl) to2_list, kit_type (by rfl) to2_tuple, tca2, tcn, tct, tcm2⟩
  have s12' : PySem.W.kitOne K (.ref C) (.ref C2) = some false := kit_refs cC2 tyC2 hCC s12
  have s21' : PySem.W.kitOne K (.ref C2) (.ref C) = some false := kit_refs cC tyC (fun z => hCC z.symm) s21
  have tc : TabC K C C2 := ⟨c, t, cl2, t2, m1, m2, m3, s21', s12'⟩
  have OT2 := ot_ob tc
  have L := lifts_fil (K := K) (CF := C) (CT := C2)
  have FIn2 : FunD K "__init__" "Table.__init__" (defArgs Table___init___S) (defBody Table___init___S) (defScope Table___init___S) [.ref e1] [] fIn2 _ := ⟨⟨_, _, _, _, _, _, _, _, _, _, rfl, lIn2, cIn2, Or.inr ⟨(fun z => nomatch z), T1, _, [.ref e1], nT1, rfl, lT1, rfl, .cons rfl .nil⟩, Or.inl rfl⟩, kIn2⟩
  have bIn2 : ∃ ds, Vals (([V.ref e1] : List V).drop 1) ds ∧ Binds K _ ["self", "prime", "width", "rows"] ds := FIn2.binds1 4 1 (fun z => nomatch z) rfl fun T kV doc pm an cdv ct us its hu hi => match us, its, hu, hi with | [_, _, _, _], [_], _, _ => ⟨_, rfl, rfl⟩
  have bIn3 : ∃ ds, Vals (([V.ref e1] : List V).drop 0) ds ∧ Binds K _ ["self", "prime", "width", "rows"] ds := FIn2.binds1 3 0 (fun z => nomatch z) rfl fun T kV doc pm an cdv ct us its hu hi => match us, its, hu, hi with | [_, _, _], [_], _, _ => ⟨_, rfl, rfl⟩
  have jII := dd FII (PySem.W.mg_of X G aII) (ok_is_int FII B OT2) bII
  have jIL := dd FIL (PySem.W.mg_of X G aIL) (ok_is_list FIL B OT2) bIL
  have jIP := dd FIP (PySem.W.mg_of X G aIP) (ok_is_prime FIP g_PR pr jII) bIP
  have jIR := dd FIR (PySem.W.mg_of X G aIR) (ok_is_row FIR B tc rfl mC jIL) bIR
  have jFR := dd FFR (PySem.W.mg_of X G aFR) (ok_first_bad_row FFR B jIR jIL) bFR
  have jIC := dd FIC (PySem.W.mg_of X G aIC) (ok_is_count FIC jII) bIC
  have okI2 := ok_tinit FIn2 B tc jIP jIC jFR
  have hT : MakeOk l.prog w K mg base C2 4 "Table" ["self", "prime", "width", "rows"] [] (spTInit K C C2) := by
    obtain ⟨ds, hv, hb⟩ := bIn2
    exact ⟨fIn2, _, ds, ⟨mk2, aIn2, iIn2, kc2⟩, mC2, hb, hv, okI2⟩
  have hT2 : MakeOk l.prog w K mg base C2 4 "Table" ["self", "prime", "width", "rows"] [.ref e1] (spTInit K C C2) := by
    obtain ⟨ds, hv, hb⟩ := bIn3
    exact ⟨fIn2, _, ds, ⟨mk2, aIn2, iIn2, kc2⟩, mC2, hb, hv, okI2⟩
  have h0 : ∀ H, SqT K H e1 [] := fun H => Or.inr ⟨_, _, _, lE1, rfl, rfl, by show 0 ≤ sizeLine; exact sz_of (by decide), .nil⟩
  have mTe : MethOk l.prog w K mg base C 1 "terms" ["self"] _ := ⟨fTe, _, ⟨aTe, iTe, kTe⟩, bTe, ok_terms FTe B c⟩
  have mRo : MethOk l.prog w K mg base C2 1 "rows" ["self"] (spRowsN K C C2) := ⟨fRo, _, ⟨aRo, iRo, kRo⟩, bRo, ok_trows FRo B tc⟩
  have dEq : DunOk l.prog w K mg base C 1 "__eq__" ["self", "other"] (SpD K (ObO K C C2) (liftR Ob.fil rEqF)) := ⟨fEq, _, aEq, iEq, jEq, bEq, SR.FnOk.lift L (ok_eq FEq B c t mC)⟩
  have dTl : DunOk l.prog w K mg base C2 1 "__len__" ["self"] (SpD K (ObO K C C2) rTLen) := ⟨fTl, _, aTl, iTl, jTl, bTl, ok_tlen FTl B tc⟩
  have dTi : IterOk l.prog w K mg C2 1 (spIt K (ObO K C C2) rTIter) := ⟨fTi, _, aTi, iTi, bTi, ok_titer FTi (PySem.W.mg_none_of X G z_iter) tc⟩
  have dTq : DunOk l.prog w K mg base C2 4 "__eq__" ["self", "other"] (SpD K (ObO K C C2) rEqT) := ⟨fTq, _, aTq, iTq, jTq, bTq, ok_teq FTq B tc rfl mC2 dEq⟩
  have jCT := dd FCT (PySem.W.mg_of X G aCT) (ok_check_tables FCT tc) bCT
  have dTa : BinOk l.prog w K mg base C2 6 .Add (SpD K (ObO K C C2) rAddT) := ⟨fTa, _, _, sf2, aTa, iTa, bTa, ok_tadd FTa B tc rfl mC2 jCT hT⟩
  have jTa : InOk K C2 .Add := ⟨_, cC2, mro2, i1A, i2A⟩
  have hLS := dd FLS (PySem.W.mg_of X G aLS) (ok_spring FLS B) bLS
  have hLD := dd FLD (PySem.W.mg_of X G aLD) (ok_draw (O := ObO K C C2) FLD B) bLD
  have hLP := dd FLP (PySem.W.mg_of X G aLP) (ok_pick FLP B hLD) bLP
  have hLPA : DefOk l.prog w K mg base 2 "_law_pick" ["_law_spring_here", "_law_things"] (spPickA K) := dd FLP (PySem.W.mg_of X G aLP) (SR.FnOk.anyX fun ω O => ok_pick FLP B (dd FLD (PySem.W.mg_of X G aLD) (ok_draw (O := O) FLD B) bLD)) bLP
  have hLM1 := dd FLM (PySem.W.mg_of X G aLM) (ok_same FLM B OKf (PySem.W.mg_of X G aLM) bLM 4) bLM
  have hLM2 := dd FLM (PySem.W.mg_of X G aLM) (ok_same FLM B OT2 (PySem.W.mg_of X G aLM) bLM 4) bLM
  have hLH := dd FLH (PySem.W.mg_of X G aLH) (ok_held (O := ObO K C C2) FLH B) bLH
  have hLA := dd FLA (PySem.W.mg_of X G aLA) (ok_pairs (O := FilO K C) FLA B) bLA
  have hLR := dd FLR (PySem.W.mg_of X G aLR) (ok_prime FLR B hLP) bLR
  have hLO := dd FLO (PySem.W.mg_of X G aLO) (ok_other FLO B hLP) bLO
  have hLN := dd FLN (PySem.W.mg_of X G aLN) (ok_drawn FLN B hLD hLH) bLN
  have hLE : DefOk l.prog w K mg base 6 "_law_made" ["_law_prime_here", "_law_held_here"] (SpD K (ObO K C C2) (liftR Ob.fil rMade)) := dd FLE (PySem.W.mg_of X G aLE) (SR.FnOk.lift L (ok_made FLE hF0 hLA)) bLE
  have hLI : DefOk l.prog w K mg base 5 "_law_is" ["_law_f", "_law_prime_here", "_law_held_here"] (SpD K (ObO K C C2) (liftR Ob.fil rIs)) := dd FLI (PySem.W.mg_of X G aLI) (SR.FnOk.lift L (ok_is FLI B c t mC hLM1 hLA mTe)) bLI
  have hLW := dd FLW (PySem.W.mg_of X G aLW) (ok_row (CF := C) (CT := C2) FLW B hLN) bLW
  have hLF := dd FLF (PySem.W.mg_of X G aLF) (ok_filters FLF B hLE) bLF
  have hLFN := dd FLF (PySem.W.mg_of X G aLF) (ok_filtersN FLF B hLE) bLF
  have hLG := dd FLG (PySem.W.mg_of X G aLG) (ok_row_is FLG B tc hLI) bLG
  have hLT := dd FLT (PySem.W.mg_of X G aLT) (ok_table_is FLT B rfl mC2 tc cl2 hLM2 dTl mRo hLG) bLT
  have hLB := dd FLB (PySem.W.mg_of X G aLB) (ok_table FLB rfl hT hLF) bLB
  have hLK := dd FLK (PySem.W.mg_of X G aLK) (ok_told_rows FLK B tc cl2 dTi mRo hLG hLT) bLK
  have hnT : ∀ d : D Ob, PySem.W.notFirst K C2 (tyD (fun o => .ref (obC C C2 o)) d) = true := fun d => by
    cases d with
    | non => exact not_first tk2_NoneType
    | bl b => exact not_first tk2_bool
    | int i => exact not_first tk2_int
    | str x => exact not_first tk2_str
    | lst l => exact not_first tk2_list
    | tup l => exact not_first tk2_tuple
    | dic m => exact not_first tk2_dict
    | obj o =>
      cases o with
      | fil f => exact not_first s12
      | tab f => exact not_first_self
  have hLC := dd FLC (PySem.W.mg_of X G aLC) (ok_compared FLC B tc cl2 hnT ne2 tcm2 dTq mRo dTa hLB) bLC
  have K0 : PySem.W.kitOne K (.type "list") (.type "list") = some true := rfl
  have K1 : PySem.W.kitOne K (.type "tuple") (.type "list") = some false := kit_types (by decide) (by rfl) tl
  exact ok_law rfl FLL B tc hnT ne2 tcm2 h0 K0 K1 hLS hLR hLO hLD hLW hLPA hLFN hT hT2 hLB hLT hLK hLC dTa jTa dTq
theorem walk {l : PySem.W.OpenLaw} {q : Program} {loose : List Str} {XP : (Str → Option Value) → Heap → Prop} {YP : World → Heap → Prop} {d : DefRec} {K : Params → PySem.W.Frag} (hn : l.most = some 63) (hdf : d.params.defaults = [])
    (hY : ∀ (w : World) (h : Heap), YP w h → (K w.params).In h)
    (F : ∀ (w : World) (mg : Str → Option Value) (fa : Addr) (h : Heap), (K w.params).In h → h.Ns mainGlobals mg → mg d.name = some (.ref fa) →
      ∃ fd : FuncData, (∀ (s : Shared) (u : Value), BindsTo s fd ⟨[u], []⟩ [("_law_script", u)]) ∧ ∀ base : Heap, (K w.params).In base → base.Ns mainGlobals mg → FnOk l.prog w (K w.params) mg base CX0 10 fa fd ["_law_script"] (spLaw15 (K w.params))) :
    PySem.W.WalkO q loose XP YP l.row.toRowW d [] (fun f vs => PySem.call f vs) :=
  L2.walk_of (n := 63) (k := 10) (x := "_law_script") (CX := fun _ => CX0) (sp := fun w => spLaw15 (K w.params)) hn (by decide) hdf ⟨rfl, by decide, by decide⟩ hY F (fun _ _ a ns hl _ hS => ⟨a, ns, rfl, hS, hl, fun _ => rfl⟩) fun _ _ _ _ _ z => z
end SR
set_option maxRecDepth 100000
set_option maxHeartbeats 0
namespace SR
open PySem PySem.W L2
/-! ### what the top leaves, as far as it is asked -/
def KK0 : Params → PySem.W.Frag := fun P => [
  (nat_lit 2, ⟨.none, none, (.dict #[] 0), #[]⟩),
  (nat_lit 3, ⟨(.type "dict"), none, (.dict #[⟨PyData.keyHash P (Str.ofString "__name__"), (.str (Str.ofString "__name__") 165), (.str (Str.ofString "law_seenrows_k15_tables_made") 1523)⟩, ⟨PyData.keyHash P (Str.ofString "__doc__"), (.str (Str.ofString "__doc__") 166), .none⟩, ⟨PyData.keyHash P (Str.ofString "__package__"), (.str (Str.ofString "__package__") 167), .none⟩, ⟨PyData.keyHash P (Str.ofString "__loader__"), (.str (Str.ofString "__loader__") 168), (.builtin "__main__.__loader__#opaque")⟩, ⟨PyData.keyHash P (Str.ofString "__spec__"), (.str (Str.ofString "__spec__") 169), .none⟩, ⟨PyData.keyHash P (Str.ofString "__annotations__"), (.str (Str.ofString "__annotations__") 170), (.ref 6)⟩, ⟨PyData.keyHash P (Str.ofString "__builtins__"), (.str (Str.ofString "__builtins__") 171), (.ref 4)⟩, ⟨PyData.keyHash P (Str.ofString "__file__"), (.str (Str.ofString "__file__") 173), (.str (Str.ofString "/claim/cut.py") 172)⟩, ⟨PyData.keyHash P (Str.ofString "__cached__"), (.str (Str.ofString "__cached__") 174), .none⟩, ⟨PyData.keyHash P (Str.ofString "_wall"), (.str (Str.ofString "_wall") 193), (.ref 21)⟩, ⟨PyData.keyHash P (Str.ofString "SeenError"), (.str (Str.ofString "SeenError") 213), (.ref 31)⟩, ⟨PyData.keyHash P (Str.ofString "BadPrime"), (.str (Str.ofString "BadPrime") 238), (.ref 51)⟩, ⟨PyData.keyHash P (Str.ofString "BadTerm"), (.str (Str.ofString "BadTerm") 263), (.ref 70)⟩, ⟨PyData.keyHash P (Str.ofString "UnlikePrimes"), (.str (Str.ofString "UnlikePrimes") 279), (.ref 82)⟩, ⟨PyData.keyHash P (Str.ofString "ZeroFilter"), (.str (Str.ofString "ZeroFilter") 295), (.ref 94)⟩, ⟨PyData.keyHash P (Str.ofString "BadRule"), (.str (Str.ofString "BadRule") 311), (.ref 106)⟩, ⟨PyData.keyHash P (Str.ofString "BadDigits"), (.str (Str.ofString "BadDigits") 327), (.ref 118)⟩, ⟨PyData.keyHash P (Str.ofString "BadWidth"), (.str (Str.ofString "BadWidth") 352), (.ref 137)⟩, ⟨PyData.keyHash P (Str.ofString "BadRow"), (.str (Str.ofString "BadRow") 377), (.ref 156)⟩, ⟨PyData.keyHash P (Str.ofString "UnlikeTables"), (.str (Str.ofString "UnlikeTables") 393), (.ref 168)⟩, ⟨PyData.keyHash P (Str.ofString "BadSequences"), (.str (Str.ofString "BadSequences") 409), (.ref 180)⟩, ⟨PyData.keyHash P (Str.ofString "PRIMES"), (.str (Str.ofString "PRIMES") 416), (.ref 183)⟩, ⟨PyData.keyHash P (Str.ofString "is_int"), (.str (Str.ofString "is_int") 423), (.ref 190)⟩, ⟨PyData.keyHash P (Str.ofString "is_list"), (.str (Str.ofString "is_list") 430), (.ref 197)⟩, ⟨PyData.keyHash P (Str.ofString "is_prime"), (.str (Str.ofString "is_prime") 437), (.ref 204)⟩, ⟨PyData.keyHash P (Str.ofString "is_term"), (.str (Str.ofString "is_term") 444), (.ref 211)⟩, ⟨PyData.keyHash P (Str.ofString "first_bad_term"), (.str (Str.ofString "first_bad_term") 453), (.ref 218)⟩, ⟨PyData.keyHash P (Str.ofString "is_count"), (.str (Str.ofString "is_count") 460), (.ref 225)⟩, ⟨PyData.keyHash P (Str.ofString "is_below"), (.str (Str.ofString "is_below") 468), (.ref 232)⟩, ⟨PyData.keyHash P (Str.ofString "is_digit"), (.str (Str.ofString "is_digit") 476), (.ref 239)⟩, ⟨PyData.keyHash P (Str.ofString "is_digits"), (.str (Str.ofString "is_digits") 482), (.ref 244)⟩, ⟨PyData.keyHash P (Str.ofString "NARROW"), (.str (Str.ofString "NARROW") 486), (.int 3 485)⟩, ⟨PyData.keyHash P (Str.ofString "NARROW_BITS"), (.str (Str.ofString "NARROW_BITS") 488), (.int 8 487)⟩, ⟨PyData.keyHash P (Str.ofString "WIDE"), (.str (Str.ofString "WIDE") 490), (.int 8 489)⟩, ⟨PyData.keyHash P (Str.ofString "WIDE_BITS"), (.str (Str.ofString "WIDE_BITS") 492), (.int 19 491)⟩, ⟨PyData.keyHash P (Str.ofString "BLOCK"), (.str (Str.ofString "BLOCK") 494), (.int 1024 493)⟩, ⟨PyData.keyHash P (Str.ofString "SLOT"), (.str (Str.ofString "SLOT") 496), (.int 12 495)⟩, ⟨PyData.keyHash P (Str.ofString "pack"), (.str (Str.ofString "pack") 502), (.ref 249)⟩, ⟨PyData.keyHash P (Str.ofString "unpack"), (.str (Str.ofString "unpack") 508), (.ref 254)⟩, ⟨PyData.keyHash P (Str.ofString "slot_mask"), (.str (Str.ofString "slot_mask") 519), (.ref 261)⟩, ⟨PyData.keyHash P (Str.ofString "lowered"), (.str (Str.ofString "lowered") 530), (.ref 268)⟩, ⟨PyData.keyHash P (Str.ofString "narrow_mask"), (.str (Str.ofString "narrow_mask") 537), (.ref 275)⟩, ⟨PyData.keyHash P (Str.ofString "without"), (.str (Str.ofString "without") 548), (.ref 282)⟩, ⟨PyData.keyHash P (Str.ofString "top_slot"), (.str (Str.ofString "top_slot") 555), (.ref 289)⟩, ⟨PyData.keyHash P (Str.ofString "multiplied"), (.str (Str.ofString "multiplied") 572), (.ref 296)⟩, ⟨PyData.keyHash P (Str.ofString "NEAR"), (.str (Str.ofString "NEAR") 576), (.int 1000 575)⟩, ⟨PyData.keyHash P (Str.ofString "inverse"), (.str (Str.ofString "inverse") 584), (.ref 303)⟩, ⟨PyData.keyHash P (Str.ofString "collected"), (.str (Str.ofString "collected") 590), (.ref 308)⟩, ⟨PyData.keyHash P (Str.ofString "long_division"), (.str (Str.ofString "long_division") 596), (.ref 313)⟩, ⟨PyData.keyHash P (Str.ofString "divided_from_above"), (.str (Str.ofString "divided_from_above") 613), (.ref 320)⟩, ⟨PyData.keyHash P (Str.ofString "divided_from_below"), (.str (Str.ofString "divided_from_below") 633), (.ref 327)⟩, ⟨PyData.keyHash P (Str.ofString "remainder"), (.str (Str.ofString "remainder") 643), (.ref 334)⟩, ⟨PyData.keyHash P (Str.ofString "near_pairs"), (.str (Str.ofString "near_pairs") 649), (.ref 339)⟩, ⟨PyData.keyHash P (Str.ofString "power_digits"), (.str (Str.ofString "power_digits") 664), (.ref 346)⟩, ⟨PyData.keyHash P (Str.ofString "stride_of"), (.str (Str.ofString "stride_of") 672), (.ref 353)⟩, ⟨PyData.keyHash P (Str.ofString "packed_powers"), (.str (Str.ofString "packed_powers") 688), (.ref 360)⟩, ⟨PyData.keyHash P (Str.ofString "packed_sum"), (.str (Str.ofString "packed_sum") 694), (.ref 365)⟩, ⟨PyData.keyHash P (Str.ofString "check_primes"), (.str (Str.ofString "check_primes") 704), (.ref 372)⟩, ⟨PyData.keyHash P (Str.ofString "check_division"), (.str (Str.ofString "check_division") 712), (.ref 379)⟩, ⟨PyData.keyHash P (Str.ofString "scaled"), (.str (Str.ofString "scaled") 718), (.ref 384)⟩, ⟨PyData.keyHash P (Str.ofString "places"), (.str (Str.ofString "places") 724), (.ref 389)⟩, ⟨PyData.keyHash P (Str.ofString "is_dense"), (.str (Str.ofString "is_dense") 732), (.ref 396)⟩, ⟨PyData.keyHash P (Str.ofString "product"), (.str (Str.ofString "product") 738), (.ref 401)⟩, ⟨PyData.keyHash P (Str.ofString "divisor_of"), (.str (Str.ofString "divisor_of") 745), (.ref 408)⟩, ⟨PyData.keyHash P (Str.ofString "Filter"), (.str (Str.ofString "Filter") 931), (.ref 557)⟩, ⟨PyData.keyHash P (Str.ofString "is_row"), (.str (Str.ofString "is_row") 939), (.ref 566)⟩, ⟨PyData.keyHash P (Str.ofString "first_bad_row"), (.str (Str.ofString "first_bad_row") 950), (.ref 573)⟩, ⟨PyData.keyHash P (Str.ofString "empty_row"), (.str (Str.ofString "empty_row") 956), (.ref 578)⟩, ⟨PyData.keyHash P (Str.ofString "unit_row"), (.str (Str.ofString "unit_row") 962), (.ref 583)⟩, ⟨PyData.keyHash P (Str.ofString "row_times"), (.str (Str.ofString "row_times") 968), (.ref 588)⟩, ⟨PyData.keyHash P (Str.ofString "row_minus"), (.str (Str.ofString "row_minus") 974), (.ref 593)⟩, ⟨PyData.keyHash P (Str.ofString "row_sum"), (.str (Str.ofString "row_sum") 987), (.ref 600)⟩, ⟨PyData.keyHash P (Str.ofString "reduced"), (.str (Str.ofString "reduced") 995), (.ref 605)⟩, ⟨PyData.keyHash P (Str.ofString "without_lead"), (.str (Str.ofString "without_lead") 1008), (.ref 612)⟩, ⟨PyData.keyHash P (Str.ofString "trimmed"), (.str (Str.ofString "trimmed") 1016), (.ref 619)⟩, ⟨PyData.keyHash P (Str.ofString "packed_vector"), (.str (Str.ofString "packed_vector") 1028), (.ref 626)⟩, ⟨PyData.keyHash P (Str.ofString "unpacked_vector"), (.str (Str.ofString "unpacked_vector") 1034), (.ref 631)⟩, ⟨PyData.keyHash P (Str.ofString "greatest_sum"), (.str (Str.ofString "greatest_sum") 1040), (.ref 636)⟩, ⟨PyData.keyHash P (Str.ofString "split"), (.str (Str.ofString "split") 1046), (.ref 641)⟩, ⟨PyData.keyHash P (Str.ofString "gcd"), (.str (Str.ofString "gcd") 1060), (.ref 648)⟩, ⟨PyData.keyHash P (Str.ofString "lcm"), (.str (Str.ofString "lcm") 1069), (.ref 655)⟩, ⟨PyData.keyHash P (Str.ofString "top_of"), (.str (Str.ofString "top_of") 1077), (.ref 660)⟩, ⟨PyData.keyHash P (Str.ofString "expanded"), (.str (Str.ofString "expanded") 1083), (.ref 665)⟩, ⟨PyData.keyHash P (Str.ofString "sequence_of"), (.str (Str.ofString "sequence_of") 1091), (.ref 672)⟩, ⟨PyData.keyHash P (Str.ofString "is_sequences"), (.str (Str.ofString "is_sequences") 1097), (.ref 677)⟩, ⟨PyData.keyHash P (Str.ofString "scaled_sequence"), (.str (Str.ofString "scaled_sequence") 1105), (.ref 684)⟩, ⟨PyData.keyHash P (Str.ofString "Sequence"), (.str (Str.ofString "Sequence") 1287), (.ref 812)⟩, ⟨PyData.keyHash P (Str.ofString "vector_of"), (.str (Str.ofString "vector_of") 1295), (.ref 821)⟩, ⟨PyData.keyHash P (Str.ofString "row_of"), (.str (Str.ofString "row_of") 1301), (.ref 826)⟩, ⟨PyData.keyHash P (Str.ofString "staircase"), (.str (Str.ofString "staircase") 1307), (.ref 831)⟩, ⟨PyData.keyHash P (Str.ofString "settled"), (.str (Str.ofString "settled") 1320), (.ref 838)⟩, ⟨PyData.keyHash P (Str.ofString "cut_down"), (.str (Str.ofString "cut_down") 1332), (.ref 845)⟩, ⟨PyData.keyHash P (Str.ofString "check_tables"), (.str (Str.ofString "check_tables") 1342), (.ref 852)⟩, ⟨PyData.keyHash P (Str.ofString "check_row"), (.str (Str.ofString "check_row") 1350), (.ref 859)⟩, ⟨PyData.keyHash P (Str.ofString "has_terms"), (.str (Str.ofString "has_terms") 1356), (.ref 864)⟩, ⟨PyData.keyHash P (Str.ofString "least_steps"), (.str (Str.ofString "least_steps") 1363), (.ref 871)⟩, ⟨PyData.keyHash P (Str.ofString "lines_with_tails"), (.str (Str.ofString "lines_with_tails") 1369), (.ref 876)⟩, ⟨PyData.keyHash P (Str.ofString "all_factors"), (.str (Str.ofString "all_factors") 1375), (.ref 881)⟩, ⟨PyData.keyHash P (Str.ofString "applied"), (.str (Str.ofString "applied") 1387), (.ref 888)⟩, ⟨PyData.keyHash P (Str.ofString "Table"), (.str (Str.ofString "Table") 1522), (.ref 998)⟩, ⟨PyData.keyHash P (Str.ofString "_law_spring"), (.str (Str.ofString "_law_spring") 1531), (.ref 1009)⟩, ⟨PyData.keyHash P (Str.ofString "_law_draw"), (.str (Str.ofString "_law_draw") 1542), (.ref 1016)⟩, ⟨PyData.keyHash P (Str.ofString "_law_pick"), (.str (Str.ofString "_law_pick") 1550), (.ref 1023)⟩, ⟨PyData.keyHash P (Str.ofString "_law_same"), (.str (Str.ofString "_law_same") 1556), (.ref 1028)⟩, ⟨PyData.keyHash P (Str.ofString "_law_held"), (.str (Str.ofString "_law_held") 1562), (.ref 1033)⟩, ⟨PyData.keyHash P (Str.ofString "_law_pairs"), (.str (Str.ofString "_law_pairs") 1568), (.ref 1038)⟩, ⟨PyData.keyHash P (Str.ofString "_law_drawn"), (.str (Str.ofString "_law_drawn") 1581), (.ref 1045)⟩, ⟨PyData.keyHash P (Str.ofString "_law_made"), (.str (Str.ofString "_law_made") 1589), (.ref 1052)⟩, ⟨PyData.keyHash P (Str.ofString "_law_is"), (.str (Str.ofString "_law_is") 1598), (.ref 1059)⟩, ⟨PyData.keyHash P (Str.ofString "_law_prime"), (.str (Str.ofString "_law_prime") 1605), (.ref 1066)⟩, ⟨PyData.keyHash P (Str.ofString "_law_other"), (.str (Str.ofString "_law_other") 1611), (.ref 1071)⟩, ⟨PyData.keyHash P (Str.ofString "_law_row"), (.str (Str.ofString "_law_row") 1617), (.ref 1076)⟩, ⟨PyData.keyHash P (Str.ofString "_law_filters"), (.str (Str.ofString "_law_filters") 1623), (.ref 1081)⟩, ⟨PyData.keyHash P (Str.ofString "_law_row_is"), (.str (Str.ofString "_law_row_is") 1629), (.ref 1086)⟩, ⟨PyData.keyHash P (Str.ofString "_law_table_is"), (.str (Str.ofString "_law_table_is") 1635), (.ref 1091)⟩, ⟨PyData.keyHash P (Str.ofString "_law_table"), (.str (Str.ofString "_law_table") 1641), (.ref 1096)⟩, ⟨PyData.keyHash P (Str.ofString "_law_told_rows_right"), (.str (Str.ofString "_law_told_rows_right") 1647), (.ref 1101)⟩, ⟨PyData.keyHash P (Str.ofString "_law_compared_right"), (.str (Str.ofString "_law_compared_right") 1653), (.ref 1106)⟩, ⟨PyData.keyHash P (Str.ofString "law"), (.str (Str.ofString "law") 1659), (.ref 1111)⟩] 119), #[]⟩),
  (nat_lit 183, ⟨(.type "tuple"), none, (.seq #[(.int 2 412), (.int 3 413), (.int 5 414), (.int 7 415)] 0), #[]⟩),
  (nat_lit 189, ⟨(.type "code"), none, (.fields #[(.str (Str.ofString "is_int") 417), (.str (Str.ofString "is_int") 418), (.str (Str.ofString "/claim/cut.py") 419), (.int 37 0), (.int 1 0), (.int 0 0), (.int 0 0), (.int 3 0), (.ref 184), (.bool true), (.int 181 0), (.ref 185), .none, (.ref 186), (.ref 187), (.ref 188), (.int 421 0), (.int 37 0), (.str (Str.ofString "/claim/cut.py") 422)]), #[]⟩),
  (nat_lit 190, ⟨(.type "function"), none, (.func (PySem.W.fnOf (Str.ofString "is_int") (Str.ofString "is_int") (defArgs (topS 15)) (defBody (topS 15)) (defScope (topS 15)) .none .none .none (.str (Str.ofString "seenrows.kinds") 410) none (.ref 189) .none)), #[]⟩),
  (nat_lit 196, ⟨(.type "code"), none, (.fields #[(.str (Str.ofString "is_list") 424), (.str (Str.ofString "is_list") 425), (.str (Str.ofString "/claim/cut.py") 426), (.int 39 0), (.int 1 0), (.int 0 0), (.int 0 0), (.int 3 0), (.ref 191), (.bool true), (.int 181 0), (.ref 192), .none, (.ref 193), (.ref 194), (.ref 195), (.int 428 0), (.int 39 0), (.str (Str.ofString "/claim/cut.py") 429)]), #[]⟩),
  (nat_lit 197, ⟨(.type "function"), none, (.func (PySem.W.fnOf (Str.ofString "is_list") (Str.ofString "is_list") (defArgs (topS 16)) (defBody (topS 16)) (defScope (topS 16)) .none .none .none (.str (Str.ofString "seenrows.kinds") 410) none (.ref 196) .none)), #[]⟩),
  (nat_lit 203, ⟨(.type "code"), none, (.fields #[(.str (Str.ofString "is_prime") 431), (.str (Str.ofString "is_prime") 432), (.str (Str.ofString "/claim/cut.py") 433), (.int 41 0), (.int 1 0), (.int 0 0), (.int 0 0), (.int 3 0), (.ref 198), (.bool true), (.int 181 0), (.ref 199), .none, (.ref 200), (.ref 201), (.ref 202), (.int 435 0), (.int 41 0), (.str (Str.ofString "/claim/cut.py") 436)]), #[]⟩),
  (nat_lit 204, ⟨(.type "function"), none, (.func (PySem.W.fnOf (Str.ofString "is_prime") (Str.ofString "is_prime") (defArgs (topS 17)) (defBody (topS 17)) (defScope (topS 17)) .none .none .none (.str (Str.ofString "seenrows.kinds") 410) none (.ref 203) .none)), #[]⟩),
  (nat_lit 210, ⟨(.type "code"), none, (.fields #[(.str (Str.ofString "is_term") 438), (.str (Str.ofString "is_term") 439), (.str (Str.ofString "/claim/cut.py") 440), (.int 43 0), (.int 1 0), (.int 0 0), (.int 0 0), (.int 3 0), (.ref 205), (.bool true), (.int 181 0), (.ref 206), .none, (.ref 207), (.ref 208), (.ref 209), (.int 442 0), (.int 43 0), (.str (Str.ofString "/claim/cut.py") 443)]), #[]⟩),
  (nat_lit 211, ⟨(.type "function"), none, (.func (PySem.W.fnOf (Str.ofString "is_term") (Str.ofString "is_term") (defArgs (topS 18)) (defBody (topS 18)) (defScope (topS 18)) .none .none .none (.str (Str.ofString "seenrows.kinds") 410) none (.ref 210) .none)), #[]⟩),
  (nat_lit 217, ⟨(.type "code"), none, (.fields #[(.str (Str.ofString "first_bad_term") 445), (.str (Str.ofString "first_bad_term") 446), (.str (Str.ofString "/claim/cut.py") 447), (.int 45 0), (.int 1 0), (.int 0 0), (.int 0 0), (.int 3 0), (.ref 212), (.bool true), (.int 181 0), (.ref 213), .none, (.ref 214), (.ref 215), (.ref 216), (.int 451 0), (.int 45 0), (.str (Str.ofString "/claim/cut.py") 452)]), #[]⟩),
  (nat_lit 218, ⟨(.type "function"), none, (.func (PySem.W.fnOf (Str.ofString "first_bad_term") (Str.ofString "first_bad_term") (defArgs (topS 19)) (defBody (topS 19)) (defScope (topS 19)) .none .none .none (.str (Str.ofString "seenrows.kinds") 410) none (.ref 217) .none)), #[]⟩),
  (nat_lit 224, ⟨(.type "code"), none, (.fields #[(.str (Str.ofString "is_count") 454), (.str (Str.ofString "is_count") 455), (.str (Str.ofString "/claim/cut.py") 456), (.int 52 0), (.int 1 0), (.int 0 0), (.int 0 0), (.int 3 0), (.ref 219), (.bool true), (.int 181 0), (.ref 220), .none, (.ref 221), (.ref 222), (.ref 223), (.int 458 0), (.int 52 0), (.str (Str.ofString "/claim/cut.py") 459)]), #[]⟩),
  (nat_lit 225, ⟨(.type "function"), none, (.func (PySem.W.fnOf (Str.ofString "is_count") (Str.ofString "is_count") (defArgs (topS 20)) (defBody (topS 20)) (defScope (topS 20)) .none .none .none (.str (Str.ofString "seenrows.kinds") 410) none (.ref 224) .none)), #[]⟩),
  (nat_lit 307, ⟨(.type "code"), none, (.fields #[(.str (Str.ofString "collected") 585), (.str (Str.ofString "collected") 586), (.str (Str.ofString "/claim/cut.py") 587), (.int 101 0), (.int 2 0), (.int 0 0), (.int 0 0), (.int 3 0), (.ref 304), (.bool true), (.int 181 0), (.ref 305), .none, .none, .none, (.ref 306), (.int 588 0), (.int 101 0), (.str (Str.ofString "/claim/cut.py") 589)]), #[]⟩),
  (nat_lit 308, ⟨(.type "function"), none, (.func (PySem.W.fnOf (Str.ofString "collected") (Str.ofString "collected") (defArgs (topS 42)) (defBody (topS 42)) (defScope (topS 42)) .none .none .none (.str (Str.ofString "seenrows.remainders") 573) none (.ref 307) .none)), #[]⟩),
  (nat_lit 416, ⟨(.type "tuple"), none, (.seq #[] 0), #[]⟩),
  (nat_lit 417, ⟨(.type "tuple"), none, (.seq #[(.ref 416)] 0), #[]⟩),
  (nat_lit 423, ⟨(.type "code"), none, (.fields #[(.str (Str.ofString "__init__") 758), (.str (Str.ofString "Filter.__init__") 759), (.str (Str.ofString "/claim/cut.py") 760), (.int 225 0), (.int 3 0), (.int 0 0), (.int 0 0), (.int 3 0), (.ref 418), (.bool true), (.int 181 0), (.ref 419), .none, (.ref 420), (.ref 421), (.ref 422), (.int 765 0), (.int 225 0), (.str (Str.ofString "/claim/cut.py") 766)]), #[]⟩),
  (nat_lit 424, ⟨(.type "function"), none, (.func (PySem.W.fnOf (Str.ofString "__init__") (Str.ofString "Filter.__init__") (defArgs (inClass (topS 60) 0)) (defBody (inClass (topS 60) 0)) (defScope (inClass (topS 60) 0)) (.ref 417) .none .none (.str (Str.ofString "seenrows.filters") 695) none (.ref 423) .none)), #[]⟩),
  (nat_lit 440, ⟨(.type "code"), none, (.fields #[(.str (Str.ofString "terms") 789), (.str (Str.ofString "Filter.terms") 790), (.str (Str.ofString "/claim/cut.py") 791), (.int 239 0), (.int 1 0), (.int 0 0), (.int 0 0), (.int 3 0), (.ref 435), (.bool true), (.int 181 0), (.ref 436), .none, (.ref 437), (.ref 438), (.ref 439), (.int 793 0), (.int 239 0), (.str (Str.ofString "/claim/cut.py") 794)]), #[]⟩),
  (nat_lit 441, ⟨(.type "function"), none, (.func (PySem.W.fnOf (Str.ofString "terms") (Str.ofString "Filter.terms") (defArgs (inClass (topS 60) 2)) (defBody (inClass (topS 60) 2)) (defScope (inClass (topS 60) 2)) .none .none .none (.str (Str.ofString "seenrows.filters") 695) none (.ref 440) .none)), #[]⟩),
  (nat_lit 487, ⟨(.type "code"), none, (.fields #[(.str (Str.ofString "__eq__") 838), (.str (Str.ofString "Filter.__eq__") 839), (.str (Str.ofString "/claim/cut.py") 840), (.int 264 0), (.int 2 0), (.int 0 0), (.int 0 0), (.int 3 0), (.ref 482), (.bool true), (.int 181 0), (.ref 483), .none, (.ref 484), (.ref 485), (.ref 486), (.int 843 0), (.int 264 0), (.str (Str.ofString "/claim/cut.py") 844)]), #[]⟩),
  (nat_lit 488, ⟨(.type "function"), none, (.func (PySem.W.fnOf (Str.ofString "__eq__") (Str.ofString "Filter.__eq__") (defArgs (inClass (topS 60) 9)) (defBody (inClass (topS 60) 9)) (defScope (inClass (topS 60) 9)) .none .none .none (.str (Str.ofString "seenrows.filters") 695) none (.ref 487) .none)), #[]⟩),
  (nat_lit 556, ⟨(.type "dict"), none, (.dict #[⟨PyData.keyHash P (Str.ofString "__module__"), (.str (Str.ofString "__module__") 753), (.str (Str.ofString "seenrows.filters") 695)⟩, ⟨PyData.keyHash P (Str.ofString "__firstlineno__"), (.str (Str.ofString "__firstlineno__") 757), (.int 223 756)⟩, ⟨PyData.keyHash P (Str.ofString "__init__"), (.str (Str.ofString "__init__") 767), (.ref 424)⟩, ⟨PyData.keyHash P (Str.ofString "shift"), (.str (Str.ofString "shift") 788), (.ref 433)⟩, ⟨PyData.keyHash P (Str.ofString "terms"), (.str (Str.ofString "terms") 795), (.ref 441)⟩, ⟨PyData.keyHash P (Str.ofString "low"), (.str (Str.ofString "low") 802), (.ref 448)⟩, ⟨PyData.keyHash P (Str.ofString "high"), (.str (Str.ofString "high") 809), (.ref 455)⟩, ⟨PyData.keyHash P (Str.ofString "span"), (.str (Str.ofString "span") 816), (.ref 462)⟩, ⟨PyData.keyHash P (Str.ofString "normal"), (.str (Str.ofString "normal") 822), (.ref 467)⟩, ⟨PyData.keyHash P (Str.ofString "__call__"), (.str (Str.ofString "__call__") 830), (.ref 474)⟩, ⟨PyData.keyHash P (Str.ofString "__bool__"), (.str (Str.ofString "__bool__") 837), (.ref 481)⟩, ⟨PyData.keyHash P (Str.ofString "__eq__"), (.str (Str.ofString "__eq__") 845), (.ref 488)⟩, ⟨PyData.keyHash P (Str.ofString "__getitem__"), (.str (Str.ofString "__getitem__") 853), (.ref 495)⟩, ⟨PyData.keyHash P (Str.ofString "__iter__"), (.str (Str.ofString "__iter__") 860), (.ref 502)⟩, ⟨PyData.keyHash P (Str.ofString "__neg__"), (.str (Str.ofString "__neg__") 867), (.ref 509)⟩, ⟨PyData.keyHash P (Str.ofString "__add__"), (.str (Str.ofString "__add__") 875), (.ref 516)⟩, ⟨PyData.keyHash P (Str.ofString "__sub__"), (.str (Str.ofString "__sub__") 883), (.ref 523)⟩, ⟨PyData.keyHash P (Str.ofString "__mul__"), (.str (Str.ofString "__mul__") 891), (.ref 530)⟩, ⟨PyData.keyHash P (Str.ofString "__rmul__"), (.str (Str.ofString "__rmul__") 899), (.ref 537)⟩, ⟨PyData.keyHash P (Str.ofString "__pow__"), (.str (Str.ofString "__pow__") 905), (.ref 542)⟩, ⟨PyData.keyHash P (Str.ofString "__mod__"), (.str (Str.ofString "__mod__") 913), (.ref 549)⟩, ⟨PyData.keyHash P (Str.ofString "__floordiv__"), (.str (Str.ofString "__floordiv__") 919), (.ref 554)⟩, ⟨PyData.keyHash P (Str.ofString "__static_attributes__"), (.str (Str.ofString "__static_attributes__") 923), (.ref 555)⟩, ⟨PyData.keyHash P (Str.ofString "__dict__"), (.str (Str.ofString "__dict__") 925), (.ref 558)⟩, ⟨PyData.keyHash P (Str.ofString "__weakref__"), (.str (Str.ofString "__weakref__") 927), (.ref 559)⟩, ⟨PyData.keyHash P (Str.ofString "__doc__"), (.str (Str.ofString "__doc__") 928), .none⟩, ⟨PyData.keyHash P (Str.ofString "__hash__"), (.str (Str.ofString "__hash__") 929), .none⟩] 5), #[]⟩),
  (nat_lit 557, ⟨(.type "type"), none, (.cls ⟨(Str.ofString "Filter"), [(.type "object")], [(.ref 557), (.type "object")], 556, (Str.ofString "Filter"), true, [], [], false, none, false⟩), #[none, none, (some (.str (Str.ofString "Filter") 746)), (some (.str (Str.ofString "Filter") 754)), (some (.builtin "object.__new__")), (some (.bool true))]⟩),
  (nat_lit 565, ⟨(.type "code"), none, (.fields #[(.str (Str.ofString "is_row") 934), (.str (Str.ofString "is_row") 935), (.str (Str.ofString "/claim/cut.py") 936), (.int 330 0), (.int 3 0), (.int 0 0), (.int 0 0), (.int 3 0), (.ref 562), (.bool true), (.int 181 0), (.ref 563), .none, .none, .none, (.ref 564), (.int 937 0), (.int 330 0), (.str (Str.ofString "/claim/cut.py") 938)]), #[]⟩),
  (nat_lit 566, ⟨(.type "function"), none, (.func (PySem.W.fnOf (Str.ofString "is_row") (Str.ofString "is_row") (defArgs (topS 62)) (defBody (topS 62)) (defScope (topS 62)) .none .none .none (.str (Str.ofString "seenrows.rows") 932) none (.ref 565) .none)), #[]⟩),
  (nat_lit 572, ⟨(.type "code"), none, (.fields #[(.str (Str.ofString "first_bad_row") 940), (.str (Str.ofString "first_bad_row") 941), (.str (Str.ofString "/claim/cut.py") 942), (.int 334 0), (.int 3 0), (.int 0 0), (.int 0 0), (.int 3 0), (.ref 567), (.bool true), (.int 181 0), (.ref 568), .none, (.ref 569), (.ref 570), (.ref 571), (.int 948 0), (.int 334 0), (.str (Str.ofString "/claim/cut.py") 949)]), #[]⟩),
  (nat_lit 573, ⟨(.type "function"), none, (.func (PySem.W.fnOf (Str.ofString "first_bad_row") (Str.ofString "first_bad_row") (defArgs (topS 63)) (defBody (topS 63)) (defScope (topS 63)) .none .none .none (.str (Str.ofString "seenrows.rows") 932) none (.ref 572) .none)), #[]⟩),
  (nat_lit 851, ⟨(.type "code"), none, (.fields #[(.str (Str.ofString "check_tables") 1335), (.str (Str.ofString "check_tables") 1336), (.str (Str.ofString "/claim/cut.py") 1337), (.int 550 0), (.int 2 0), (.int 0 0), (.int 0 0), (.int 3 0), (.ref 846), (.bool true), (.int 181 0), (.ref 847), .none, (.ref 848), (.ref 849), (.ref 850), (.int 1340 0), (.int 550 0), (.str (Str.ofString "/claim/cut.py") 1341)]), #[]⟩),
  (nat_lit 852, ⟨(.type "function"), none, (.func (PySem.W.fnOf (Str.ofString "check_tables") (Str.ofString "check_tables") (defArgs (topS 94)) (defBody (topS 94)) (defScope (topS 94)) .none .none .none (.str (Str.ofString "seenrows.tables") 1333) none (.ref 851) .none)), #[]⟩),
  (nat_lit 896, ⟨(.type "tuple"), none, (.seq #[] 0), #[]⟩),
  (nat_lit 897, ⟨(.type "tuple"), none, (.seq #[(.ref 896)] 0), #[]⟩),
  (nat_lit 901, ⟨(.type "code"), none, (.fields #[(.str (Str.ofString "__init__") 1400), (.str (Str.ofString "Table.__init__") 1401), (.str (Str.ofString "/claim/cut.py") 1402), (.int 579 0), (.int 4 0), (.int 0 0), (.int 0 0), (.int 3 0), (.ref 898), (.bool true), (.int 181 0), (.ref 899), .none, .none, .none, (.ref 900), (.int 1403 0), (.int 579 0), (.str (Str.ofString "/claim/cut.py") 1404)]), #[]⟩),
  (nat_lit 902, ⟨(.type "function"), none, (.func (PySem.W.fnOf (Str.ofString "__init__") (Str.ofString "Table.__init__") (defArgs (inClass (topS 101) 0)) (defBody (inClass (topS 101) 0)) (defScope (inClass (topS 101) 0)) (.ref 897) .none .none (.str (Str.ofString "seenrows.tables") 1333) none (.ref 901) .none)), #[]⟩),
  (nat_lit 906, ⟨(.type "code"), none, (.fields #[(.str (Str.ofString "rows") 1406), (.str (Str.ofString "Table.rows") 1407), (.str (Str.ofString "/claim/cut.py") 1408), (.int 591 0), (.int 1 0), (.int 0 0), (.int 0 0), (.int 3 0), (.ref 903), (.bool true), (.int 181 0), (.ref 904), .none, .none, .none, (.ref 905), (.int 1409 0), (.int 591 0), (.str (Str.ofString "/claim/cut.py") 1410)]), #[]⟩),
  (nat_lit 907, ⟨(.type "function"), none, (.func (PySem.W.fnOf (Str.ofString "rows") (Str.ofString "Table.rows") (defArgs (inClass (topS 101) 1)) (defBody (inClass (topS 101) 1)) (defScope (inClass (topS 101) 1)) .none .none .none (.str (Str.ofString "seenrows.tables") 1333) none (.ref 906) .none)), #[]⟩),
  (nat_lit 951, ⟨(.type "code"), none, (.fields #[(.str (Str.ofString "__len__") 1455), (.str (Str.ofString "Table.__len__") 1456), (.str (Str.ofString "/claim/cut.py") 1457), (.int 617 0), (.int 1 0), (.int 0 0), (.int 0 0), (.int 3 0), (.ref 946), (.bool true), (.int 181 0), (.ref 947), .none, (.ref 948), (.ref 949), (.ref 950), (.int 1459 0), (.int 617 0), (.str (Str.ofString "/claim/cut.py") 1460)]), #[]⟩),
  (nat_lit 952, ⟨(.type "function"), none, (.func (PySem.W.fnOf (Str.ofString "__len__") (Str.ofString "Table.__len__") (defArgs (inClass (topS 101) 8)) (defBody (inClass (topS 101) 8)) (defScope (inClass (topS 101) 8)) .none .none .none (.str (Str.ofString "seenrows.tables") 1333) none (.ref 951) .none)), #[]⟩),
  (nat_lit 958, ⟨(.type "code"), none, (.fields #[(.str (Str.ofString "__iter__") 1462), (.str (Str.ofString "Table.__iter__") 1463), (.str (Str.ofString "/claim/cut.py") 1464), (.int 620 0), (.int 1 0), (.int 0 0), (.int 0 0), (.int 3 0), (.ref 953), (.bool true), (.int 181 0), (.ref 954), .none, (.ref 955), (.ref 956), (.ref 957), (.int 1466 0), (.int 620 0), (.str (Str.ofString "/claim/cut.py") 1467)]), #[]⟩),
  (nat_lit 959, ⟨(.type "function"), none, (.func (PySem.W.fnOf (Str.ofString "__iter__") (Str.ofString "Table.__iter__") (defArgs (inClass (topS 101) 9)) (defBody (inClass (topS 101) 9)) (defScope (inClass (topS 101) 9)) .none .none .none (.str (Str.ofString "seenrows.tables") 1333) none (.ref 958) .none)), #[]⟩),
  (nat_lit 972, ⟨(.type "code"), none, (.fields #[(.str (Str.ofString "__eq__") 1477), (.str (Str.ofString "Table.__eq__") 1478), (.str (Str.ofString "/claim/cut.py") 1479), (.int 626 0), (.int 2 0), (.int 0 0), (.int 0 0), (.int 3 0), (.ref 967), (.bool true), (.int 181 0), (.ref 968), .none, (.ref 969), (.ref 970), (.ref 971), (.int 1482 0), (.int 626 0), (.str (Str.ofString "/claim/cut.py") 1483)]), #[]⟩),
  (nat_lit 973, ⟨(.type "function"), none, (.func (PySem.W.fnOf (Str.ofString "__eq__") (Str.ofString "Table.__eq__") (defArgs (inClass (topS 101) 11)) (defBody (inClass (topS 101) 11)) (defScope (inClass (topS 101) 11)) .none .none .none (.str (Str.ofString "seenrows.tables") 1333) none (.ref 972) .none)), #[]⟩),
  (nat_lit 984, ⟨(.type "code"), none, (.fields #[(.str (Str.ofString "__add__") 1491), (.str (Str.ofString "Table.__add__") 1492), (.str (Str.ofString "/claim/cut.py") 1493), (.int 638 0), (.int 2 0), (.int 0 0), (.int 0 0), (.int 3 0), (.ref 979), (.bool true), (.int 181 0), (.ref 980), .none, (.ref 981), (.ref 982), (.ref 983), (.int 1496 0), (.int 638 0), (.str (Str.ofString "/claim/cut.py") 1497)]), #[]⟩),
  (nat_lit 985, ⟨(.type "function"), none, (.func (PySem.W.fnOf (Str.ofString "__add__") (Str.ofString "Table.__add__") (defArgs (inClass (topS 101) 13)) (defBody (inClass (topS 101) 13)) (defScope (inClass (topS 101) 13)) .none .none .none (.str (Str.ofString "seenrows.tables") 1333) none (.ref 984) .none)), #[]⟩),
  (nat_lit 997, ⟨(.type "dict"), none, (.dict #[⟨PyData.keyHash P (Str.ofString "__module__"), (.str (Str.ofString "__module__") 1395), (.str (Str.ofString "seenrows.tables") 1333)⟩, ⟨PyData.keyHash P (Str.ofString "__firstlineno__"), (.str (Str.ofString "__firstlineno__") 1399), (.int 577 1398)⟩, ⟨PyData.keyHash P (Str.ofString "__init__"), (.str (Str.ofString "__init__") 1405), (.ref 902)⟩, ⟨PyData.keyHash P (Str.ofString "rows"), (.str (Str.ofString "rows") 1411), (.ref 907)⟩, ⟨PyData.keyHash P (Str.ofString "factors"), (.str (Str.ofString "factors") 1420), (.ref 914)⟩, ⟨PyData.keyHash P (Str.ofString "least"), (.str (Str.ofString "least") 1426), (.ref 919)⟩, ⟨PyData.keyHash P (Str.ofString "rank"), (.str (Str.ofString "rank") 1433), (.ref 926)⟩, ⟨PyData.keyHash P (Str.ofString "rest"), (.str (Str.ofString "rest") 1441), (.ref 933)⟩, ⟨PyData.keyHash P (Str.ofString "checks"), (.str (Str.ofString "checks") 1448), (.ref 940)⟩, ⟨PyData.keyHash P (Str.ofString "__call__"), (.str (Str.ofString "__call__") 1454), (.ref 945)⟩, ⟨PyData.keyHash P (Str.ofString "__len__"), (.str (Str.ofString "__len__") 1461), (.ref 952)⟩, ⟨PyData.keyHash P (Str.ofString "__iter__"), (.str (Str.ofString "__iter__") 1468), (.ref 959)⟩, ⟨PyData.keyHash P (Str.ofString "__contains__"), (.str (Str.ofString "__contains__") 1476), (.ref 966)⟩, ⟨PyData.keyHash P (Str.ofString "__eq__"), (.str (Str.ofString "__eq__") 1484), (.ref 973)⟩, ⟨PyData.keyHash P (Str.ofString "__le__"), (.str (Str.ofString "__le__") 1490), (.ref 978)⟩, ⟨PyData.keyHash P (Str.ofString "__add__"), (.str (Str.ofString "__add__") 1498), (.ref 985)⟩, ⟨PyData.keyHash P (Str.ofString "__mul__"), (.str (Str.ofString "__mul__") 1504), (.ref 990)⟩, ⟨PyData.keyHash P (Str.ofString "__and__"), (.str (Str.ofString "__and__") 1510), (.ref 995)⟩, ⟨PyData.keyHash P (Str.ofString "__static_attributes__"), (.str (Str.ofString "__static_attributes__") 1514), (.ref 996)⟩, ⟨PyData.keyHash P (Str.ofString "__dict__"), (.str (Str.ofString "__dict__") 1516), (.ref 999)⟩, ⟨PyData.keyHash P (Str.ofString "__weakref__"), (.str (Str.ofString "__weakref__") 1518), (.ref 1000)⟩, ⟨PyData.keyHash P (Str.ofString "__doc__"), (.str (Str.ofString "__doc__") 1519), .none⟩, ⟨PyData.keyHash P (Str.ofString "__hash__"), (.str (Str.ofString "__hash__") 1520), .none⟩] 5), #[]⟩),
  (nat_lit 998, ⟨(.type "type"), none, (.cls ⟨(Str.ofString "Table"), [(.type "object")], [(.ref 998), (.type "object")], 997, (Str.ofString "Table"), true, [], [], false, none, false⟩), #[none, none, (some (.str (Str.ofString "Table") 1388)), (some (.str (Str.ofString "Table") 1396)), (some (.builtin "object.__new__")), (some (.bool true))]⟩),
  (nat_lit 1008, ⟨(.type "code"), none, (.fields #[(.str (Str.ofString "_law_spring") 1525), (.str (Str.ofString "_law_spring") 1526), (.str (Str.ofString "/claim/cut.py") 1527), (.int 660 0), (.int 1 0), (.int 0 0), (.int 0 0), (.int 3 0), (.ref 1003), (.bool true), (.int 181 0), (.ref 1004), .none, (.ref 1005), (.ref 1006), (.ref 1007), (.int 1529 0), (.int 660 0), (.str (Str.ofString "/claim/cut.py") 1530)]), #[]⟩),
  (nat_lit 1009, ⟨(.type "function"), none, (.func (PySem.W.fnOf (Str.ofString "_law_spring") (Str.ofString "_law_spring") (defArgs (topS 103)) (defBody (topS 103)) (defScope (topS 103)) .none .none .none (.str (Str.ofString "law_seenrows_k15_tables_made") 1523) none (.ref 1008) .none)), #[]⟩),
  (nat_lit 1015, ⟨(.type "code"), none, (.fields #[(.str (Str.ofString "_law_draw") 1532), (.str (Str.ofString "_law_draw") 1533), (.str (Str.ofString "/claim/cut.py") 1534), (.int 662 0), (.int 2 0), (.int 0 0), (.int 0 0), (.int 3 0), (.ref 1010), (.bool true), (.int 181 0), (.ref 1011), .none, (.ref 1012), (.ref 1013), (.ref 1014), (.int 1540 0), (.int 662 0), (.str (Str.ofString "/claim/cut.py") 1541)]), #[]⟩),
  (nat_lit 1016, ⟨(.type "function"), none, (.func (PySem.W.fnOf (Str.ofString "_law_draw") (Str.ofString "_law_draw") (defArgs (topS 104)) (defBody (topS 104)) (defScope (topS 104)) .none .none .none (.str (Str.ofString "law_seenrows_k15_tables_made") 1523) none (.ref 1015) .none)), #[]⟩),
  (nat_lit 1022, ⟨(.type "code"), none, (.fields #[(.str (Str.ofString "_law_pick") 1543), (.str (Str.ofString "_law_pick") 1544), (.str (Str.ofString "/claim/cut.py") 1545), (.int 676 0), (.int 2 0), (.int 0 0), (.int 0 0), (.int 3 0), (.ref 1017), (.bool true), (.int 181 0), (.ref 1018), .none, (.ref 1019), (.ref 1020), (.ref 1021), (.int 1548 0), (.int 676 0), (.str (Str.ofString "/claim/cut.py") 1549)]), #[]⟩),
  (nat_lit 1023, ⟨(.type "function"), none, (.func (PySem.W.fnOf (Str.ofString "_law_pick") (Str.ofString "_law_pick") (defArgs (topS 105)) (defBody (topS 105)) (defScope (topS 105)) .none .none .none (.str (Str.ofString "law_seenrows_k15_tables_made") 1523) none (.ref 1022) .none)), #[]⟩),
  (nat_lit 1027, ⟨(.type "code"), none, (.fields #[(.str (Str.ofString "_law_same") 1551), (.str (Str.ofString "_law_same") 1552), (.str (Str.ofString "/claim/cut.py") 1553), (.int 678 0), (.int 2 0), (.int 0 0), (.int 0 0), (.int 3 0), (.ref 1024), (.bool true), (.int 181 0), (.ref 1025), .none, .none, .none, (.ref 1026), (.int 1554 0), (.int 678 0), (.str (Str.ofString "/claim/cut.py") 1555)]), #[]⟩),
  (nat_lit 1028, ⟨(.type "function"), none, (.func (PySem.W.fnOf (Str.ofString "_law_same") (Str.ofString "_law_same") (defArgs (topS 106)) (defBody (topS 106)) (defScope (topS 106)) .none .none .none (.str (Str.ofString "law_seenrows_k15_tables_made") 1523) none (.ref 1027) .none)), #[]⟩),
  (nat_lit 1032, ⟨(.type "code"), none, (.fields #[(.str (Str.ofString "_law_held") 1557), (.str (Str.ofString "_law_held") 1558), (.str (Str.ofString "/claim/cut.py") 1559), (.int 686 0), (.int 2 0), (.int 0 0), (.int 0 0), (.int 3 0), (.ref 1029), (.bool true), (.int 181 0), (.ref 1030), .none, .none, .none, (.ref 1031), (.int 1560 0), (.int 686 0), (.str (Str.ofString "/claim/cut.py") 1561)]), #[]⟩),
  (nat_lit 1033, ⟨(.type "function"), none, (.func (PySem.W.fnOf (Str.ofString "_law_held") (Str.ofString "_law_held") (defArgs (topS 107)) (defBody (topS 107)) (defScope (topS 107)) .none .none .none (.str (Str.ofString "law_seenrows_k15_tables_made") 1523) none (.ref 1032) .none)), #[]⟩),
  (nat_lit 1037, ⟨(.type "code"), none, (.fields #[(.str (Str.ofString "_law_pairs") 1563), (.str (Str.ofString "_law_pairs") 1564), (.str (Str.ofString "/claim/cut.py") 1565), (.int 694 0), (.int 1 0), (.int 0 0), (.int 0 0), (.int 3 0), (.ref 1034), (.bool true), (.int 181 0), (.ref 1035), .none, .none, .none, (.ref 1036), (.int 1566 0), (.int 694 0), (.str (Str.ofString "/claim/cut.py") 1567)]), #[]⟩)]
def KA0 : List Addr := [nat_lit 2, nat_lit 3, nat_lit 183, nat_lit 189, nat_lit 190, nat_lit 196, nat_lit 197, nat_lit 203, nat_lit 204, nat_lit 210, nat_lit 211, nat_lit 217, nat_lit 218, nat_lit 224, nat_lit 225, nat_lit 307, nat_lit 308, nat_lit 416, nat_lit 417, nat_lit 423, nat_lit 424, nat_lit 440, nat_lit 441, nat_lit 487, nat_lit 488, nat_lit 556, nat_lit 557, nat_lit 565, nat_lit 566, nat_lit 572, nat_lit 573, nat_lit 851, nat_lit 852, nat_lit 896, nat_lit 897, nat_lit 901, nat_lit 902, nat_lit 906, nat_lit 907, nat_lit 951, nat_lit 952, nat_lit 958, nat_lit 959, nat_lit 972, nat_lit 973, nat_lit 984, nat_lit 985, nat_lit 997, nat_lit 998, nat_lit 1008, nat_lit 1009, nat_lit 1015, nat_lit 1016, nat_lit 1022, nat_lit 1023, nat_lit 1027, nat_lit 1028, nat_lit 1032, nat_lit 1033, nat_lit 1037]
def KK1 : Params → PySem.W.Frag := fun P => [
  (nat_lit 1038, ⟨(.type "function"), none, (.func (PySem.W.fnOf (Str.ofString "_law_pairs") (Str.ofString "_law_pairs") (defArgs (topS 108)) (defBody (topS 108)) (defScope (topS 108)) .none .none .none (.str (Str.ofString "law_seenrows_k15_tables_made") 1523) none (.ref 1037) .none)), #[]⟩),
  (nat_lit 1044, ⟨(.type "code"), none, (.fields #[(.str (Str.ofString "_law_drawn") 1569), (.str (Str.ofString "_law_drawn") 1570), (.str (Str.ofString "/claim/cut.py") 1571), (.int 696 0), (.int 4 0), (.int 0 0), (.int 0 0), (.int 3 0), (.ref 1039), (.bool true), (.int 181 0), (.ref 1040), .none, (.ref 1041), (.ref 1042), (.ref 1043), (.int 1579 0), (.int 696 0), (.str (Str.ofString "/claim/cut.py") 1580)]), #[]⟩),
  (nat_lit 1045, ⟨(.type "function"), none, (.func (PySem.W.fnOf (Str.ofString "_law_drawn") (Str.ofString "_law_drawn") (defArgs (topS 109)) (defBody (topS 109)) (defScope (topS 109)) .none .none .none (.str (Str.ofString "law_seenrows_k15_tables_made") 1523) none (.ref 1044) .none)), #[]⟩),
  (nat_lit 1051, ⟨(.type "code"), none, (.fields #[(.str (Str.ofString "_law_made") 1582), (.str (Str.ofString "_law_made") 1583), (.str (Str.ofString "/claim/cut.py") 1584), (.int 702 0), (.int 2 0), (.int 0 0), (.int 0 0), (.int 3 0), (.ref 1046), (.bool true), (.int 181 0), (.ref 1047), .none, (.ref 1048), (.ref 1049), (.ref 1050), (.int 1587 0), (.int 702 0), (.str (Str.ofString "/claim/cut.py") 1588)]), #[]⟩),
  (nat_lit 1052, ⟨(.type "function"), none, (.func (PySem.W.fnOf (Str.ofString "_law_made") (Str.ofString "_law_made") (defArgs (topS 110)) (defBody (topS 110)) (defScope (topS 110)) .none .none .none (.str (Str.ofString "law_seenrows_k15_tables_made") 1523) none (.ref 1051) .none)), #[]⟩),
  (nat_lit 1058, ⟨(.type "code"), none, (.fields #[(.str (Str.ofString "_law_is") 1590), (.str (Str.ofString "_law_is") 1591), (.str (Str.ofString "/claim/cut.py") 1592), (.int 704 0), (.int 3 0), (.int 0 0), (.int 0 0), (.int 3 0), (.ref 1053), (.bool true), (.int 181 0), (.ref 1054), .none, (.ref 1055), (.ref 1056), (.ref 1057), (.int 1596 0), (.int 704 0), (.str (Str.ofString "/claim/cut.py") 1597)]), #[]⟩),
  (nat_lit 1059, ⟨(.type "function"), none, (.func (PySem.W.fnOf (Str.ofString "_law_is") (Str.ofString "_law_is") (defArgs (topS 111)) (defBody (topS 111)) (defScope (topS 111)) .none .none .none (.str (Str.ofString "law_seenrows_k15_tables_made") 1523) none (.ref 1058) .none)), #[]⟩),
  (nat_lit 1065, ⟨(.type "code"), none, (.fields #[(.str (Str.ofString "_law_prime") 1599), (.str (Str.ofString "_law_prime") 1600), (.str (Str.ofString "/claim/cut.py") 1601), (.int 706 0), (.int 1 0), (.int 0 0), (.int 0 0), (.int 3 0), (.ref 1060), (.bool true), (.int 181 0), (.ref 1061), .none, (.ref 1062), (.ref 1063), (.ref 1064), (.int 1603 0), (.int 706 0), (.str (Str.ofString "/claim/cut.py") 1604)]), #[]⟩),
  (nat_lit 1066, ⟨(.type "function"), none, (.func (PySem.W.fnOf (Str.ofString "_law_prime") (Str.ofString "_law_prime") (defArgs (topS 112)) (defBody (topS 112)) (defScope (topS 112)) .none .none .none (.str (Str.ofString "law_seenrows_k15_tables_made") 1523) none (.ref 1065) .none)), #[]⟩),
  (nat_lit 1070, ⟨(.type "code"), none, (.fields #[(.str (Str.ofString "_law_other") 1606), (.str (Str.ofString "_law_other") 1607), (.str (Str.ofString "/claim/cut.py") 1608), (.int 708 0), (.int 2 0), (.int 0 0), (.int 0 0), (.int 3 0), (.ref 1067), (.bool true), (.int 181 0), (.ref 1068), .none, .none, .none, (.ref 1069), (.int 1609 0), (.int 708 0), (.str (Str.ofString "/claim/cut.py") 1610)]), #[]⟩),
  (nat_lit 1071, ⟨(.type "function"), none, (.func (PySem.W.fnOf (Str.ofString "_law_other") (Str.ofString "_law_other") (defArgs (topS 113)) (defBody (topS 113)) (defScope (topS 113)) .none .none .none (.str (Str.ofString "law_seenrows_k15_tables_made") 1523) none (.ref 1070) .none)), #[]⟩),
  (nat_lit 1075, ⟨(.type "code"), none, (.fields #[(.str (Str.ofString "_law_row") 1612), (.str (Str.ofString "_law_row") 1613), (.str (Str.ofString "/claim/cut.py") 1614), (.int 710 0), (.int 5 0), (.int 0 0), (.int 0 0), (.int 3 0), (.ref 1072), (.bool true), (.int 181 0), (.ref 1073), .none, .none, .none, (.ref 1074), (.int 1615 0), (.int 710 0), (.str (Str.ofString "/claim/cut.py") 1616)]), #[]⟩),
  (nat_lit 1076, ⟨(.type "function"), none, (.func (PySem.W.fnOf (Str.ofString "_law_row") (Str.ofString "_law_row") (defArgs (topS 114)) (defBody (topS 114)) (defScope (topS 114)) .none .none .none (.str (Str.ofString "law_seenrows_k15_tables_made") 1523) none (.ref 1075) .none)), #[]⟩),
  (nat_lit 1080, ⟨(.type "code"), none, (.fields #[(.str (Str.ofString "_law_filters") 1618), (.str (Str.ofString "_law_filters") 1619), (.str (Str.ofString "/claim/cut.py") 1620), (.int 712 0), (.int 2 0), (.int 0 0), (.int 0 0), (.int 3 0), (.ref 1077), (.bool true), (.int 181 0), (.ref 1078), .none, .none, .none, (.ref 1079), (.int 1621 0), (.int 712 0), (.str (Str.ofString "/claim/cut.py") 1622)]), #[]⟩),
  (nat_lit 1081, ⟨(.type "function"), none, (.func (PySem.W.fnOf (Str.ofString "_law_filters") (Str.ofString "_law_filters") (defArgs (topS 115)) (defBody (topS 115)) (defScope (topS 115)) .none .none .none (.str (Str.ofString "law_seenrows_k15_tables_made") 1523) none (.ref 1080) .none)), #[]⟩),
  (nat_lit 1085, ⟨(.type "code"), none, (.fields #[(.str (Str.ofString "_law_row_is") 1624), (.str (Str.ofString "_law_row_is") 1625), (.str (Str.ofString "/claim/cut.py") 1626), (.int 714 0), (.int 3 0), (.int 0 0), (.int 0 0), (.int 3 0), (.ref 1082), (.bool true), (.int 181 0), (.ref 1083), .none, .none, .none, (.ref 1084), (.int 1627 0), (.int 714 0), (.str (Str.ofString "/claim/cut.py") 1628)]), #[]⟩),
  (nat_lit 1086, ⟨(.type "function"), none, (.func (PySem.W.fnOf (Str.ofString "_law_row_is") (Str.ofString "_law_row_is") (defArgs (topS 116)) (defBody (topS 116)) (defScope (topS 116)) .none .none .none (.str (Str.ofString "law_seenrows_k15_tables_made") 1523) none (.ref 1085) .none)), #[]⟩),
  (nat_lit 1090, ⟨(.type "code"), none, (.fields #[(.str (Str.ofString "_law_table_is") 1630), (.str (Str.ofString "_law_table_is") 1631), (.str (Str.ofString "/claim/cut.py") 1632), (.int 718 0), (.int 4 0), (.int 0 0), (.int 0 0), (.int 3 0), (.ref 1087), (.bool true), (.int 181 0), (.ref 1088), .none, .none, .none, (.ref 1089), (.int 1633 0), (.int 718 0), (.str (Str.ofString "/claim/cut.py") 1634)]), #[]⟩),
  (nat_lit 1091, ⟨(.type "function"), none, (.func (PySem.W.fnOf (Str.ofString "_law_table_is") (Str.ofString "_law_table_is") (defArgs (topS 117)) (defBody (topS 117)) (defScope (topS 117)) .none .none .none (.str (Str.ofString "law_seenrows_k15_tables_made") 1523) none (.ref 1090) .none)), #[]⟩),
  (nat_lit 1095, ⟨(.type "code"), none, (.fields #[(.str (Str.ofString "_law_table") 1636), (.str (Str.ofString "_law_table") 1637), (.str (Str.ofString "/claim/cut.py") 1638), (.int 725 0), (.int 3 0), (.int 0 0), (.int 0 0), (.int 3 0), (.ref 1092), (.bool true), (.int 181 0), (.ref 1093), .none, .none, .none, (.ref 1094), (.int 1639 0), (.int 725 0), (.str (Str.ofString "/claim/cut.py") 1640)]), #[]⟩),
  (nat_lit 1096, ⟨(.type "function"), none, (.func (PySem.W.fnOf (Str.ofString "_law_table") (Str.ofString "_law_table") (defArgs (topS 118)) (defBody (topS 118)) (defScope (topS 118)) .none .none .none (.str (Str.ofString "law_seenrows_k15_tables_made") 1523) none (.ref 1095) .none)), #[]⟩),
  (nat_lit 1100, ⟨(.type "code"), none, (.fields #[(.str (Str.ofString "_law_told_rows_right") 1642), (.str (Str.ofString "_law_told_rows_right") 1643), (.str (Str.ofString "/claim/cut.py") 1644), (.int 727 0), (.int 4 0), (.int 0 0), (.int 0 0), (.int 3 0), (.ref 1097), (.bool true), (.int 181 0), (.ref 1098), .none, .none, .none, (.ref 1099), (.int 1645 0), (.int 727 0), (.str (Str.ofString "/claim/cut.py") 1646)]), #[]⟩),
  (nat_lit 1101, ⟨(.type "function"), none, (.func (PySem.W.fnOf (Str.ofString "_law_told_rows_right") (Str.ofString "_law_told_rows_right") (defArgs (topS 119)) (defBody (topS 119)) (defScope (topS 119)) .none .none .none (.str (Str.ofString "law_seenrows_k15_tables_made") 1523) none (.ref 1100) .none)), #[]⟩),
  (nat_lit 1105, ⟨(.type "code"), none, (.fields #[(.str (Str.ofString "_law_compared_right") 1648), (.str (Str.ofString "_law_compared_right") 1649), (.str (Str.ofString "/claim/cut.py") 1650), (.int 738 0), (.int 6 0), (.int 0 0), (.int 0 0), (.int 3 0), (.ref 1102), (.bool true), (.int 181 0), (.ref 1103), .none, .none, .none, (.ref 1104), (.int 1651 0), (.int 738 0), (.str (Str.ofString "/claim/cut.py") 1652)]), #[]⟩),
  (nat_lit 1106, ⟨(.type "function"), none, (.func (PySem.W.fnOf (Str.ofString "_law_compared_right") (Str.ofString "_law_compared_right") (defArgs (topS 120)) (defBody (topS 120)) (defScope (topS 120)) .none .none .none (.str (Str.ofString "law_seenrows_k15_tables_made") 1523) none (.ref 1105) .none)), #[]⟩),
  (nat_lit 1110, ⟨(.type "code"), none, (.fields #[(.str (Str.ofString "law") 1654), (.str (Str.ofString "law") 1655), (.str (Str.ofString "/claim/cut.py") 1656), (.int 744 0), (.int 1 0), (.int 0 0), (.int 0 0), (.int 3 0), (.ref 1107), (.bool true), (.int 181 0), (.ref 1108), .none, .none, .none, (.ref 1109), (.int 1657 0), (.int 744 0), (.str (Str.ofString "/claim/cut.py") 1658)]), #[]⟩),
  (nat_lit 1111, ⟨(.type "function"), none, (.func (PySem.W.fnOf (Str.ofString "law") (Str.ofString "law") (defArgs (topS 121)) (defBody (topS 121)) (defScope (topS 121)) .none .none .none (.str (Str.ofString "law_seenrows_k15_tables_made") 1523) none (.ref 1110) .none)), #[]⟩)]
def KA1 : List Addr := [nat_lit 1038, nat_lit 1044, nat_lit 1045, nat_lit 1051, nat_lit 1052, nat_lit 1058, nat_lit 1059, nat_lit 1065, nat_lit 1066, nat_lit 1070, nat_lit 1071, nat_lit 1075, nat_lit 1076, nat_lit 1080, nat_lit 1081, nat_lit 1085, nat_lit 1086, nat_lit 1090, nat_lit 1091, nat_lit 1095, nat_lit 1096, nat_lit 1100, nat_lit 1101, nat_lit 1105, nat_lit 1106, nat_lit 1110, nat_lit 1111]
def KK : Params → PySem.W.Frag := fun P =>
  (nat_lit 2, ⟨.none, none, (.dict #[] 0), #[]⟩) ::
  (nat_lit 3, ⟨(.type "dict"), none, (.dict #[⟨PyData.keyHash P (Str.ofString "__name__"), (.str (Str.ofString "__name__") 165), (.str (Str.ofString "law_seenrows_k15_tables_made") 1523)⟩, ⟨PyData.keyHash P (Str.ofString "__doc__"), (.str (Str.ofString "__doc__") 166), .none⟩, ⟨PyData.keyHash P (Str.ofString "__package__"), (.str (Str.ofString "__package__") 167), .none⟩, ⟨PyData.keyHash P (Str.ofString "__loader__"), (.str (Str.ofString "__loader__") 168), (.builtin "__main__.__loader__#opaque")⟩, ⟨PyData.keyHash P (Str.ofString "__spec__"), (.str (Str.ofString "__spec__") 169), .none⟩, ⟨PyData.keyHash P (Str.ofString "__annotations__"), (.str (Str.ofString "__annotations__") 170), (.ref 6)⟩, ⟨PyData.keyHash P (Str.ofString "__builtins__"), (.str (Str.ofString "__builtins__") 171), (.ref 4)⟩, ⟨PyData.keyHash P (Str.ofString "__file__"), (.str (Str.ofString "__file__") 173), (.str (Str.ofString "/claim/cut.py") 172)⟩, ⟨PyData.keyHash P (Str.ofString "__cached__"), (.str (Str.ofString "__cached__") 174), .none⟩, ⟨PyData.keyHash P (Str.ofString "_wall"), (.str (Str.ofString "_wall") 193), (.ref 21)⟩, ⟨PyData.keyHash P (Str.ofString "SeenError"), (.str (Str.ofString "SeenError") 213), (.ref 31)⟩, ⟨PyData.keyHash P (Str.ofString "BadPrime"), (.str (Str.ofString "BadPrime") 238), (.ref 51)⟩, ⟨PyData.keyHash P (Str.ofString "BadTerm"), (.str (Str.ofString "BadTerm") 263), (.ref 70)⟩, ⟨PyData.keyHash P (Str.ofString "UnlikePrimes"), (.str (Str.ofString "UnlikePrimes") 279), (.ref 82)⟩, ⟨PyData.keyHash P (Str.ofString "ZeroFilter"), (.str (Str.ofString "ZeroFilter") 295), (.ref 94)⟩, ⟨PyData.keyHash P (Str.ofString "BadRule"), (.str (Str.ofString "BadRule") 311), (.ref 106)⟩, ⟨PyData.keyHash P (Str.ofString "BadDigits"), (.str (Str.ofString "BadDigits") 327), (.ref 118)⟩, ⟨PyData.keyHash P (Str.ofString "BadWidth"), (.str (Str.ofString "BadWidth") 352), (.ref 137)⟩, ⟨PyData.keyHash P (Str.ofString "BadRow"), (.str (Str.ofString "BadRow") 377), (.ref 156)⟩, ⟨PyData.keyHash P (Str.ofString "UnlikeTables"), (.str (Str.ofString "UnlikeTables") 393), (.ref 168)⟩, ⟨PyData.keyHash P (Str.ofString "BadSequences"), (.str (Str.ofString "BadSequences") 409), (.ref 180)⟩, ⟨PyData.keyHash P (Str.ofString "PRIMES"), (.str (Str.ofString "PRIMES") 416), (.ref 183)⟩, ⟨PyData.keyHash P (Str.ofString "is_int"), (.str (Str.ofString "is_int") 423), (.ref 190)⟩, ⟨PyData.keyHash P (Str.ofString "is_list"), (.str (Str.ofString "is_list") 430), (.ref 197)⟩, ⟨PyData.keyHash P (Str.ofString "is_prime"), (.str (Str.ofString "is_prime") 437), (.ref 204)⟩, ⟨PyData.keyHash P (Str.ofString "is_term"), (.str (Str.ofString "is_term") 444), (.ref 211)⟩, ⟨PyData.keyHash P (Str.ofString "first_bad_term"), (.str (Str.ofString "first_bad_term") 453), (.ref 218)⟩, ⟨PyData.keyHash P (Str.ofString "is_count"), (.str (Str.ofString "is_count") 460), (.ref 225)⟩, ⟨PyData.keyHash P (Str.ofString "is_below"), (.str (Str.ofString "is_below") 468), (.ref 232)⟩, ⟨PyData.keyHash P (Str.ofString "is_digit"), (.str (Str.ofString "is_digit") 476), (.ref 239)⟩, ⟨PyData.keyHash P (Str.ofString "is_digits"), (.str (Str.ofString "is_digits") 482), (.ref 244)⟩, ⟨PyData.keyHash P (Str.ofString "NARROW"), (.str (Str.ofString "NARROW") 486), (.int 3 485)⟩, ⟨PyData.keyHash P (Str.ofString "NARROW_BITS"), (.str (Str.ofString "NARROW_BITS") 488), (.int 8 487)⟩, ⟨PyData.keyHash P (Str.ofString "WIDE"), (.str (Str.ofString "WIDE") 490), (.int 8 489)⟩, ⟨PyData.keyHash P (Str.ofString "WIDE_BITS"), (.str (Str.ofString "WIDE_BITS") 492), (.int 19 491)⟩, ⟨PyData.keyHash P (Str.ofString "BLOCK"), (.str (Str.ofString "BLOCK") 494), (.int 1024 493)⟩, ⟨PyData.keyHash P (Str.ofString "SLOT"), (.str (Str.ofString "SLOT") 496), (.int 12 495)⟩, ⟨PyData.keyHash P (Str.ofString "pack"), (.str (Str.ofString "pack") 502), (.ref 249)⟩, ⟨PyData.keyHash P (Str.ofString "unpack"), (.str (Str.ofString "unpack") 508), (.ref 254)⟩, ⟨PyData.keyHash P (Str.ofString "slot_mask"), (.str (Str.ofString "slot_mask") 519), (.ref 261)⟩, ⟨PyData.keyHash P (Str.ofString "lowered"), (.str (Str.ofString "lowered") 530), (.ref 268)⟩, ⟨PyData.keyHash P (Str.ofString "narrow_mask"), (.str (Str.ofString "narrow_mask") 537), (.ref 275)⟩, ⟨PyData.keyHash P (Str.ofString "without"), (.str (Str.ofString "without") 548), (.ref 282)⟩, ⟨PyData.keyHash P (Str.ofString "top_slot"), (.str (Str.ofString "top_slot") 555), (.ref 289)⟩, ⟨PyData.keyHash P (Str.ofString "multiplied"), (.str (Str.ofString "multiplied") 572), (.ref 296)⟩, ⟨PyData.keyHash P (Str.ofString "NEAR"), (.str (Str.ofString "NEAR") 576), (.int 1000 575)⟩, ⟨PyData.keyHash P (Str.ofString "inverse"), (.str (Str.ofString "inverse") 584), (.ref 303)⟩, ⟨PyData.keyHash P (Str.ofString "collected"), (.str (Str.ofString "collected") 590), (.ref 308)⟩, ⟨PyData.keyHash P (Str.ofString "long_division"), (.str (Str.ofString "long_division") 596), (.ref 313)⟩, ⟨PyData.keyHash P (Str.ofString "divided_from_above"), (.str (Str.ofString "divided_from_above") 613), (.ref 320)⟩, ⟨PyData.keyHash P (Str.ofString "divided_from_below"), (.str (Str.ofString "divided_from_below") 633), (.ref 327)⟩, ⟨PyData.keyHash P (Str.ofString "remainder"), (.str (Str.ofString "remainder") 643), (.ref 334)⟩, ⟨PyData.keyHash P (Str.ofString "near_pairs"), (.str (Str.ofString "near_pairs") 649), (.ref 339)⟩, ⟨PyData.keyHash P (Str.ofString "power_digits"), (.str (Str.ofString "power_digits") 664), (.ref 346)⟩, ⟨PyData.keyHash P (Str.ofString "stride_of"), (.str (Str.ofString "stride_of") 672), (.ref 353)⟩, ⟨PyData.keyHash P (Str.ofString "packed_powers"), (.str (Str.ofString "packed_powers") 688), (.ref 360)⟩, ⟨PyData.keyHash P (Str.ofString "packed_sum"), (.str (Str.ofString "packed_sum") 694), (.ref 365)⟩, ⟨PyData.keyHash P (Str.ofString "check_primes"), (.str (Str.ofString "check_primes") 704), (.ref 372)⟩, ⟨PyData.keyHash P (Str.ofString "check_division"), (.str (Str.ofString "check_division") 712), (.ref 379)⟩, ⟨PyData.keyHash P (Str.ofString "scaled"), (.str (Str.ofString "scaled") 718), (.ref 384)⟩, ⟨PyData.keyHash P (Str.ofString "places"), (.str (Str.ofString "places") 724), (.ref 389)⟩, ⟨PyData.keyHash P (Str.ofString "is_dense"), (.str (Str.ofString "is_dense") 732), (.ref 396)⟩, ⟨PyData.keyHash P (Str.ofString "product"), (.str (Str.ofString "product") 738), (.ref 401)⟩, ⟨PyData.keyHash P (Str.ofString "divisor_of"), (.str (Str.ofString "divisor_of") 745), (.ref 408)⟩, ⟨PyData.keyHash P (Str.ofString "Filter"), (.str (Str.ofString "Filter") 931), (.ref 557)⟩, ⟨PyData.keyHash P (Str.ofString "is_row"), (.str (Str.ofString "is_row") 939), (.ref 566)⟩, ⟨PyData.keyHash P (Str.ofString "first_bad_row"), (.str (Str.ofString "first_bad_row") 950), (.ref 573)⟩, ⟨PyData.keyHash P (Str.ofString "empty_row"), (.str (Str.ofString "empty_row") 956), (.ref 578)⟩, ⟨PyData.keyHash P (Str.ofString "unit_row"), (.str (Str.ofString "unit_row") 962), (.ref 583)⟩, ⟨PyData.keyHash P (Str.ofString "row_times"), (.str (Str.ofString "row_times") 968), (.ref 588)⟩, ⟨PyData.keyHash P (Str.ofString "row_minus"), (.str (Str.ofString "row_minus") 974), (.ref 593)⟩, ⟨PyData.keyHash P (Str.ofString "row_sum"), (.str (Str.ofString "row_sum") 987), (.ref 600)⟩, ⟨PyData.keyHash P (Str.ofString "reduced"), (.str (Str.ofString "reduced") 995), (.ref 605)⟩, ⟨PyData.keyHash P (Str.ofString "without_lead"), (.str (Str.ofString "without_lead") 1008), (.ref 612)⟩, ⟨PyData.keyHash P (Str.ofString "trimmed"), (.str (Str.ofString "trimmed") 1016), (.ref 619)⟩, ⟨PyData.keyHash P (Str.ofString "packed_vector"), (.str (Str.ofString "packed_vector") 1028), (.ref 626)⟩, ⟨PyData.keyHash P (Str.ofString "unpacked_vector"), (.str (Str.ofString "unpacked_vector") 1034), (.ref 631)⟩, ⟨PyData.keyHash P (Str.ofString "greatest_sum"), (.str (Str.ofString "greatest_sum") 1040), (.ref 636)⟩, ⟨PyData.keyHash P (Str.ofString "split"), (.str (Str.ofString "split") 1046), (.ref 641)⟩, ⟨PyData.keyHash P (Str.ofString "gcd"), (.str (Str.ofString "gcd") 1060), (.ref 648)⟩, ⟨PyData.keyHash P (Str.ofString "lcm"), (.str (Str.ofString "lcm") 1069), (.ref 655)⟩, ⟨PyData.keyHash P (Str.ofString "top_of"), (.str (Str.ofString "top_of") 1077), (.ref 660)⟩, ⟨PyData.keyHash P (Str.ofString "expanded"), (.str (Str.ofString "expanded") 1083), (.ref 665)⟩, ⟨PyData.keyHash P (Str.ofString "sequence_of"), (.str (Str.ofString "sequence_of") 1091), (.ref 672)⟩, ⟨PyData.keyHash P (Str.ofString "is_sequences"), (.str (Str.ofString "is_sequences") 1097), (.ref 677)⟩, ⟨PyData.keyHash P (Str.ofString "scaled_sequence"), (.str (Str.ofString "scaled_sequence") 1105), (.ref 684)⟩, ⟨PyData.keyHash P (Str.ofString "Sequence"), (.str (Str.ofString "Sequence") 1287), (.ref 812)⟩, ⟨PyData.keyHash P (Str.ofString "vector_of"), (.str (Str.ofString "vector_of") 1295), (.ref 821)⟩, ⟨PyData.keyHash P (Str.ofString "row_of"), (.str (Str.ofString "row_of") 1301), (.ref 826)⟩, ⟨PyData.keyHash P (Str.ofString "staircase"), (.str (Str.ofString "staircase") 1307), (.ref 831)⟩, ⟨PyData.keyHash P (Str.ofString "settled"), (.str (Str.ofString "settled") 1320), (.ref 838)⟩, ⟨PyData.keyHash P (Str.ofString "cut_down"), (.str (Str.ofString "cut_down") 1332), (.ref 845)⟩, ⟨PyData.keyHash P (Str.ofString "check_tables"), (.str (Str.ofString "check_tables") 1342), (.ref 852)⟩, ⟨PyData.keyHash P (Str.ofString "check_row"), (.str (Str.ofString "check_row") 1350), (.ref 859)⟩, ⟨PyData.keyHash P (Str.ofString "has_terms"), (.str (Str.ofString "has_terms") 1356), (.ref 864)⟩, ⟨PyData.keyHash P (Str.ofString "least_steps"), (.str (Str.ofString "least_steps") 1363), (.ref 871)⟩, ⟨PyData.keyHash P (Str.ofString "lines_with_tails"), (.str (Str.ofString "lines_with_tails") 1369), (.ref 876)⟩, ⟨PyData.keyHash P (Str.ofString "all_factors"), (.str (Str.ofString "all_factors") 1375), (.ref 881)⟩, ⟨PyData.keyHash P (Str.ofString "applied"), (.str (Str.ofString "applied") 1387), (.ref 888)⟩, ⟨PyData.keyHash P (Str.ofString "Table"), (.str (Str.ofString "Table") 1522), (.ref 998)⟩, ⟨PyData.keyHash P (Str.ofString "_law_spring"), (.str (Str.ofString "_law_spring") 1531), (.ref 1009)⟩, ⟨PyData.keyHash P (Str.ofString "_law_draw"), (.str (Str.ofString "_law_draw") 1542), (.ref 1016)⟩, ⟨PyData.keyHash P (Str.ofString "_law_pick"), (.str (Str.ofString "_law_pick") 1550), (.ref 1023)⟩, ⟨PyData.keyHash P (Str.ofString "_law_same"), (.str (Str.ofString "_law_same") 1556), (.ref 1028)⟩, ⟨PyData.keyHash P (Str.ofString "_law_held"), (.str (Str.ofString "_law_held") 1562), (.ref 1033)⟩, ⟨PyData.keyHash P (Str.ofString "_law_pairs"), (.str (Str.ofString "_law_pairs") 1568), (.ref 1038)⟩, ⟨PyData.keyHash P (Str.ofString "_law_drawn"), (.str (Str.ofString "_law_drawn") 1581), (.ref 1045)⟩, ⟨PyData.keyHash P (Str.ofString "_law_made"), (.str (Str.ofString "_law_made") 1589), (.ref 1052)⟩, ⟨PyData.keyHash P (Str.ofString "_law_is"), (.str (Str.ofString "_law_is") 1598), (.ref 1059)⟩, ⟨PyData.keyHash P (Str.ofString "_law_prime"), (.str (Str.ofString "_law_prime") 1605), (.ref 1066)⟩, ⟨PyData.keyHash P (Str.ofString "_law_other"), (.str (Str.ofString "_law_other") 1611), (.ref 1071)⟩, ⟨PyData.keyHash P (Str.ofString "_law_row"), (.str (Str.ofString "_law_row") 1617), (.ref 1076)⟩, ⟨PyData.keyHash P (Str.ofString "_law_filters"), (.str (Str.ofString "_law_filters") 1623), (.ref 1081)⟩, ⟨PyData.keyHash P (Str.ofString "_law_row_is"), (.str (Str.ofString "_law_row_is") 1629), (.ref 1086)⟩, ⟨PyData.keyHash P (Str.ofString "_law_table_is"), (.str (Str.ofString "_law_table_is") 1635), (.ref 1091)⟩, ⟨PyData.keyHash P (Str.ofString "_law_table"), (.str (Str.ofString "_law_table") 1641), (.ref 1096)⟩, ⟨PyData.keyHash P (Str.ofString "_law_told_rows_right"), (.str (Str.ofString "_law_told_rows_right") 1647), (.ref 1101)⟩, ⟨PyData.keyHash P (Str.ofString "_law_compared_right"), (.str (Str.ofString "_law_compared_right") 1653), (.ref 1106)⟩, ⟨PyData.keyHash P (Str.ofString "law"), (.str (Str.ofString "law") 1659), (.ref 1111)⟩] 119), #[]⟩) ::
  (nat_lit 183, ⟨(.type "tuple"), none, (.seq #[(.int 2 412), (.int 3 413), (.int 5 414), (.int 7 415)] 0), #[]⟩) ::
  (nat_lit 189, ⟨(.type "code"), none, (.fields #[(.str (Str.ofString "is_int") 417), (.str (Str.ofString "is_int") 418), (.str (Str.ofString "/claim/cut.py") 419), (.int 37 0), (.int 1 0), (.int 0 0), (.int 0 0), (.int 3 0), (.ref 184), (.bool true), (.int 181 0), (.ref 185), .none, (.ref 186), (.ref 187), (.ref 188), (.int 421 0), (.int 37 0), (.str (Str.ofString "/claim/cut.py") 422)]), #[]⟩) ::
  (nat_lit 190, ⟨(.type "function"), none, (.func (PySem.W.fnOf (Str.ofString "is_int") (Str.ofString "is_int") (defArgs (topS 15)) (defBody (topS 15)) (defScope (topS 15)) .none .none .none (.str (Str.ofString "seenrows.kinds") 410) none (.ref 189) .none)), #[]⟩) ::
  (nat_lit 196, ⟨(.type "code"), none, (.fields #[(.str (Str.ofString "is_list") 424), (.str (Str.ofString "is_list") 425), (.str (Str.ofString "/claim/cut.py") 426), (.int 39 0), (.int 1 0), (.int 0 0), (.int 0 0), (.int 3 0), (.ref 191), (.bool true), (.int 181 0), (.ref 192), .none, (.ref 193), (.ref 194), (.ref 195), (.int 428 0), (.int 39 0), (.str (Str.ofString "/claim/cut.py") 429)]), #[]⟩) ::
  (nat_lit 197, ⟨(.type "function"), none, (.func (PySem.W.fnOf (Str.ofString "is_list") (Str.ofString "is_list") (defArgs (topS 16)) (defBody (topS 16)) (defScope (topS 16)) .none .none .none (.str (Str.ofString "seenrows.kinds") 410) none (.ref 196) .none)), #[]⟩) ::
  (nat_lit 203, ⟨(.type "code"), none, (.fields #[(.str (Str.ofString "is_prime") 431), (.str (Str.ofString "is_prime") 432), (.str (Str.ofString "/claim/cut.py") 433), (.int 41 0), (.int 1 0), (.int 0 0), (.int 0 0), (.int 3 0), (.ref 198), (.bool true), (.int 181 0), (.ref 199), .none, (.ref 200), (.ref 201), (.ref 202), (.int 435 0), (.int 41 0), (.str (Str.ofString "/claim/cut.py") 436)]), #[]⟩) ::
  (nat_lit 204, ⟨(.type "function"), none, (.func (PySem.W.fnOf (Str.ofString "is_prime") (Str.ofString "is_prime") (defArgs (topS 17)) (defBody (topS 17)) (defScope (topS 17)) .none .none .none (.str (Str.ofString "seenrows.kinds") 410) none (.ref 203) .none)), #[]⟩) ::
  (nat_lit 210, ⟨(.type "code"), none, (.fields #[(.str (Str.ofString "is_term") 438), (.str (Str.ofString "is_term") 439), (.str (Str.ofString "/claim/cut.py") 440), (.int 43 0), (.int 1 0), (.int 0 0), (.int 0 0), (.int 3 0), (.ref 205), (.bool true), (.int 181 0), (.ref 206), .none, (.ref 207), (.ref 208), (.ref 209), (.int 442 0), (.int 43 0), (.str (Str.ofString "/claim/cut.py") 443)]), #[]⟩) ::
  (nat_lit 211, ⟨(.type "function"), none, (.func (PySem.W.fnOf (Str.ofString "is_term") (Str.ofString "is_term") (defArgs (topS 18)) (defBody (topS 18)) (defScope (topS 18)) .none .none .none (.str (Str.ofString "seenrows.kinds") 410) none (.ref 210) .none)), #[]⟩) ::
  (nat_lit 217, ⟨(.type "code"), none, (.fields #[(.str (Str.ofString "first_bad_term") 445), (.str (Str.ofString "first_bad_term") 446), (.str (Str.ofString "/claim/cut.py") 447), (.int 45 0), (.int 1 0), (.int 0 0), (.int 0 0), (.int 3 0), (.ref 212), (.bool true), (.int 181 0), (.ref 213), .none, (.ref 214), (.ref 215), (.ref 216), (.int 451 0), (.int 45 0), (.str (Str.ofString "/claim/cut.py") 452)]), #[]⟩) ::
  (nat_lit 218, ⟨(.type "function"), none, (.func (PySem.W.fnOf (Str.ofString "first_bad_term") (Str.ofString "first_bad_term") (defArgs (topS 19)) (defBody (topS 19)) (defScope (topS 19)) .none .none .none (.str (Str.ofString "seenrows.kinds") 410) none (.ref 217) .none)), #[]⟩) ::
  (nat_lit 224, ⟨(.type "code"), none, (.fields #[(.str (Str.ofString "is_count") 454), (.str (Str.ofString "is_count") 455), (.str (Str.ofString "/claim/cut.py") 456), (.int 52 0), (.int 1 0), (.int 0 0), (.int 0 0), (.int 3 0), (.ref 219), (.bool true), (.int 181 0), (.ref 220), .none, (.ref 221), (.ref 222), (.ref 223), (.int 458 0), (.int 52 0), (.str (Str.ofString "/claim/cut.py") 459)]), #[]⟩) ::
  (nat_lit 225, ⟨(.type "function"), none, (.func (PySem.W.fnOf (Str.ofString "is_count") (Str.ofString "is_count") (defArgs (topS 20)) (defBody (topS 20)) (defScope (topS 20)) .none .none .none (.str (Str.ofString "seenrows.kinds") 410) none (.ref 224) .none)), #[]⟩) ::
  (nat_lit 307, ⟨(.type "code"), none, (.fields #[(.str (Str.ofString "collected") 585), (.str (Str.ofString "collected") 586), (.str (Str.ofString "/claim/cut.py") 587), (.int 101 0), (.int 2 0), (.int 0 0), (.int 0 0), (.int 3 0), (.ref 304), (.bool true), (.int 181 0), (.ref 305), .none, .none, .none, (.ref 306), (.int 588 0), (.int 101 0), (.str (Str.ofString "/claim/cut.py") 589)]), #[]⟩) ::
  (nat_lit 308, ⟨(.type "function"), none, (.func (PySem.W.fnOf (Str.ofString "collected") (Str.ofString "collected") (defArgs (topS 42)) (defBody (topS 42)) (defScope (topS 42)) .none .none .none (.str (Str.ofString "seenrows.remainders") 573) none (.ref 307) .none)), #[]⟩) ::
  (nat_lit 416, ⟨(.type "tuple"), none, (.seq #[] 0), #[]⟩) ::
  (nat_lit 417, ⟨(.type "tuple"), none, (.seq #[(.ref 416)] 0), #[]⟩) ::
  (nat_lit 423, ⟨(.type "code"), none, (.fields #[(.str (Str.ofString "__init__") 758), (.str (Str.ofString "Filter.__init__") 759), (.str (Str.ofString "/claim/cut.py") 760), (.int 225 0), (.int 3 0), (.int 0 0), (.int 0 0), (.int 3 0), (.ref 418), (.bool true), (.int 181 0), (.ref 419), .none, (.ref 420), (.ref 421), (.ref 422), (.int 765 0), (.int 225 0), (.str (Str.ofString "/claim/cut.py") 766)]), #[]⟩) ::
  (nat_lit 424, ⟨(.type "function"), none, (.func (PySem.W.fnOf (Str.ofString "__init__") (Str.ofString "Filter.__init__") (defArgs (inClass (topS 60) 0)) (defBody (inClass (topS 60) 0)) (defScope (inClass (topS 60) 0)) (.ref 417) .none .none (.str (Str.ofString "seenrows.filters") 695) none (.ref 423) .none)), #[]⟩) ::
  (nat_lit 440, ⟨(.type "code"), none, (.fields #[(.str (Str.ofString "terms") 789), (.str (Str.ofString "Filter.terms") 790), (.str (Str.ofString "/claim/cut.py") 791), (.int 239 0), (.int 1 0), (.int 0 0), (.int 0 0), (.int 3 0), (.ref 435), (.bool true), (.int 181 0), (.ref 436), .none, (.ref 437), (.ref 438), (.ref 439), (.int 793 0), (.int 239 0), (.str (Str.ofString "/claim/cut.py") 794)]), #[]⟩) ::
  (nat_lit 441, ⟨(.type "function"), none, (.func (PySem.W.fnOf (Str.ofString "terms") (Str.ofString "Filter.terms") (defArgs (inClass (topS 60) 2)) (defBody (inClass (topS 60) 2)) (defScope (inClass (topS 60) 2)) .none .none .none (.str (Str.ofString "seenrows.filters") 695) none (.ref 440) .none)), #[]⟩) ::
  (nat_lit 487, ⟨(.type "code"), none, (.fields #[(.str (Str.ofString "__eq__") 838), (.str (Str.ofString "Filter.__eq__") 839), (.str (Str.ofString "/claim/cut.py") 840), (.int 264 0), (.int 2 0), (.int 0 0), (.int 0 0), (.int 3 0), (.ref 482), (.bool true), (.int 181 0), (.ref 483), .none, (.ref 484), (.ref 485), (.ref 486), (.int 843 0), (.int 264 0), (.str (Str.ofString "/claim/cut.py") 844)]), #[]⟩) ::
  (nat_lit 488, ⟨(.type "function"), none, (.func (PySem.W.fnOf (Str.ofString "__eq__") (Str.ofString "Filter.__eq__") (defArgs (inClass (topS 60) 9)) (defBody (inClass (topS 60) 9)) (defScope (inClass (topS 60) 9)) .none .none .none (.str (Str.ofString "seenrows.filters") 695) none (.ref 487) .none)), #[]⟩) ::
  (nat_lit 556, ⟨(.type "dict"), none, (.dict #[⟨PyData.keyHash P (Str.ofString "__module__"), (.str (Str.ofString "__module__") 753), (.str (Str.ofString "seenrows.filters") 695)⟩, ⟨PyData.keyHash P (Str.ofString "__firstlineno__"), (.str (Str.ofString "__firstlineno__") 757), (.int 223 756)⟩, ⟨PyData.keyHash P (Str.ofString "__init__"), (.str (Str.ofString "__init__") 767), (.ref 424)⟩, ⟨PyData.keyHash P (Str.ofString "shift"), (.str (Str.ofString "shift") 788), (.ref 433)⟩, ⟨PyData.keyHash P (Str.ofString "terms"), (.str (Str.ofString "terms") 795), (.ref 441)⟩, ⟨PyData.keyHash P (Str.ofString "low"), (.str (Str.ofString "low") 802), (.ref 448)⟩, ⟨PyData.keyHash P (Str.ofString "high"), (.str (Str.ofString "high") 809), (.ref 455)⟩, ⟨PyData.keyHash P (Str.ofString "span"), (.str (Str.ofString "span") 816), (.ref 462)⟩, ⟨PyData.keyHash P (Str.ofString "normal"), (.str (Str.ofString "normal") 822), (.ref 467)⟩, ⟨PyData.keyHash P (Str.ofString "__call__"), (.str (Str.ofString "__call__") 830), (.ref 474)⟩, ⟨PyData.keyHash P (Str.ofString "__bool__"), (.str (Str.ofString "__bool__") 837), (.ref 481)⟩, ⟨PyData.keyHash P (Str.ofString "__eq__"), (.str (Str.ofString "__eq__") 845), (.ref 488)⟩, ⟨PyData.keyHash P (Str.ofString "__getitem__"), (.str (Str.ofString "__getitem__") 853), (.ref 495)⟩, ⟨PyData.keyHash P (Str.ofString "__iter__"), (.str (Str.ofString "__iter__") 860), (.ref 502)⟩, ⟨PyData.keyHash P (Str.ofString "__neg__"), (.str (Str.ofString "__neg__") 867), (.ref 509)⟩, ⟨PyData.keyHash P (Str.ofString "__add__"), (.str (Str.ofString "__add__") 875), (.ref 516)⟩, ⟨PyData.keyHash P (Str.ofString "__sub__"), (.str (Str.ofString "__sub__") 883), (.ref 523)⟩, ⟨PyData.keyHash P (Str.ofString "__mul__"), (.str (Str.ofString "__mul__") 891), (.ref 530)⟩, ⟨PyData.keyHash P (Str.ofString "__rmul__"), (.str (Str.ofString "__rmul__") 899), (.ref 537)⟩, ⟨PyData.keyHash P (Str.ofString "__pow__"), (.str (Str.ofString "__pow__") 905), (.ref 542)⟩, ⟨PyData.keyHash P (Str.ofString "__mod__"), (.str (Str.ofString "__mod__") 913), (.ref 549)⟩, ⟨PyData.keyHash P (Str.ofString "__floordiv__"), (.str (Str.ofString "__floordiv__") 919), (.ref 554)⟩, ⟨PyData.keyHash P (Str.ofString "__static_attributes__"), (.str (Str.ofString "__static_attributes__") 923), (.ref 555)⟩, ⟨PyData.keyHash P (Str.ofString "__dict__"), (.str (Str.ofString "__dict__") 925), (.ref 558)⟩, ⟨PyData.keyHash P (Str.ofString "__weakref__"), (.str (Str.ofString "__weakref__") 927), (.ref 559)⟩, ⟨PyData.keyHash P (Str.ofString "__doc__"), (.str (Str.ofString "__doc__") 928), .none⟩, ⟨PyData.keyHash P (Str.ofString "__hash__"), (.str (Str.ofString "__hash__") 929), .none⟩] 5), #[]⟩) ::
  (nat_lit 557, ⟨(.type "type"), none, (.cls ⟨(Str.ofString "Filter"), [(.type "object")], [(.ref 557), (.type "object")], 556, (Str.ofString "Filter"), true, [], [], false, none, false⟩), #[none, none, (some (.str (Str.ofString "Filter") 746)), (some (.str (Str.ofString "Filter") 754)), (some (.builtin "object.__new__")), (some (.bool true))]⟩) ::
  (nat_lit 565, ⟨(.type "code"), none, (.fields #[(.str (Str.ofString "is_row") 934), (.str (Str.ofString "is_row") 935), (.str (Str.ofString "/claim/cut.py") 936), (.int 330 0), (.int 3 0), (.int 0 0), (.int 0 0), (.int 3 0), (.ref 562), (.bool true), (.int 181 0), (.ref 563), .none, .none, .none, (.ref 564), (.int 937 0), (.int 330 0), (.str (Str.ofString "/claim/cut.py") 938)]), #[]⟩) ::
  (nat_lit 566, ⟨(.type "function"), none, (.func (PySem.W.fnOf (Str.ofString "is_row") (Str.ofString "is_row") (defArgs (topS 62)) (defBody (topS 62)) (defScope (topS 62)) .none .none .none (.str (Str.ofString "seenrows.rows") 932) none (.ref 565) .none)), #[]⟩) ::
  (nat_lit 572, ⟨(.type "code"), none, (.fields #[(.str (Str.ofString "first_bad_row") 940), (.str (Str.ofString "first_bad_row") 941), (.str (Str.ofString "/claim/cut.py") 942), (.int 334 0), (.int 3 0), (.int 0 0), (.int 0 0), (.int 3 0), (.ref 567), (.bool true), (.int 181 0), (.ref 568), .none, (.ref 569), (.ref 570), (.ref 571), (.int 948 0), (.int 334 0), (.str (Str.ofString "/claim/cut.py") 949)]), #[]⟩) ::
  (nat_lit 573, ⟨(.type "function"), none, (.func (PySem.W.fnOf (Str.ofString "first_bad_row") (Str.ofString "first_bad_row") (defArgs (topS 63)) (defBody (topS 63)) (defScope (topS 63)) .none .none .none (.str (Str.ofString "seenrows.rows") 932) none (.ref 572) .none)), #[]⟩) ::
  (nat_lit 851, ⟨(.type "code"), none, (.fields #[(.str (Str.ofString "check_tables") 1335), (.str (Str.ofString "check_tables") 1336), (.str (Str.ofString "/claim/cut.py") 1337), (.int 550 0), (.int 2 0), (.int 0 0), (.int 0 0), (.int 3 0), (.ref 846), (.bool true), (.int 181 0), (.ref 847), .none, (.ref 848), (.ref 849), (.ref 850), (.int 1340 0), (.int 550 0), (.str (Str.ofString "/claim/cut.py") 1341)]), #[]⟩) ::
  (nat_lit 852, ⟨(.type "function"), none, (.func (PySem.W.fnOf (Str.ofString "check_tables") (Str.ofString "check_tables") (defArgs (topS 94)) (defBody (topS 94)) (defScope (topS 94)) .none .none .none (.str (Str.ofString "seenrows.tables") 1333) none (.ref 851) .none)), #[]⟩) ::
  (nat_lit 896, ⟨(.type "tuple"), none, (.seq #[] 0), #[]⟩) ::
  (nat_lit 897, ⟨(.type "tuple"), none, (.seq #[(.ref 896)] 0), #[]⟩) ::
  (nat_lit 901, ⟨(.type "code"), none, (.fields #[(.str (Str.ofString "__init__") 1400), (.str (Str.ofString "Table.__init__") 1401), (.str (Str.ofString "/claim/cut.py") 1402), (.int 579 0), (.int 4 0), (.int 0 0), (.int 0 0), (.int 3 0), (.ref 898), (.bool true), (.int 181 0), (.ref 899), .none, .none, .none, (.ref 900), (.int 1403 0), (.int 579 0), (.str (Str.ofString "/claim/cut.py") 1404)]), #[]⟩) ::
  (nat_lit 902, ⟨(.type "function"), none, (.func (PySem.W.fnOf (Str.ofString "__init__") (Str.ofString "Table.__init__") (defArgs (inClass (topS 101) 0)) (defBody (inClass (topS 101) 0)) (defScope (inClass (topS 101) 0)) (.ref 897) .none .none (.str (Str.ofString "seenrows.tables") 1333) none (.ref 901) .none)), #[]⟩) ::
  (nat_lit 906, ⟨(.type "code"), none, (.fields #[(.str (Str.ofString "rows") 1406), (.str (Str.ofString "Table.rows") 1407), (.str (Str.ofString "/claim/cut.py") 1408), (.int 591 0), (.int 1 0), (.int 0 0), (.int 0 0), (.int 3 0), (.ref 903), (.bool true), (.int 181 0), (.ref 904), .none, .none, .none, (.ref 905), (.int 1409 0), (.int 591 0), (.str (Str.ofString "/claim/cut.py") 1410)]), #[]⟩) ::
  (nat_lit 907, ⟨(.type "function"), none, (.func (PySem.W.fnOf (Str.ofString "rows") (Str.ofString "Table.rows") (defArgs (inClass (topS 101) 1)) (defBody (inClass (topS 101) 1)) (defScope (inClass (topS 101) 1)) .none .none .none (.str (Str.ofString "seenrows.tables") 1333) none (.ref 906) .none)), #[]⟩) ::
  (nat_lit 951, ⟨(.type "code"), none, (.fields #[(.str (Str.ofString "__len__") 1455), (.str (Str.ofString "Table.__len__") 1456), (.str (Str.ofString "/claim/cut.py") 1457), (.int 617 0), (.int 1 0), (.int 0 0), (.int 0 0), (.int 3 0), (.ref 946), (.bool true), (.int 181 0), (.ref 947), .none, (.ref 948), (.ref 949), (.ref 950), (.int 1459 0), (.int 617 0), (.str (Str.ofString "/claim/cut.py") 1460)]), #[]⟩) ::
  (nat_lit 952, ⟨(.type "function"), none, (.func (PySem.W.fnOf (Str.ofString "__len__") (Str.ofString "Table.__len__") (defArgs (inClass (topS 101) 8)) (defBody (inClass (topS 101) 8)) (defScope (inClass (topS 101) 8)) .none .none .none (.str (Str.ofString "seenrows.tables") 1333) none (.ref 951) .none)), #[]⟩) ::
  (nat_lit 958, ⟨(.type "code"), none, (.fields #[(.str (Str.ofString "__iter__") 1462), (.str (Str.ofString "Table.__iter__") 1463), (.str (Str.ofString "/claim/cut.py") 1464), (.int 620 0), (.int 1 0), (.int 0 0), (.int 0 0), (.int 3 0), (.ref 953), (.bool true), (.int 181 0), (.ref 954), .none, (.ref 955), (.ref 956), (.ref 957), (.int 1466 0), (.int 620 0), (.str (Str.ofString "/claim/cut.py") 1467)]), #[]⟩) ::
  (nat_lit 959, ⟨(.type "function"), none, (.func (PySem.W.fnOf (Str.ofString "__iter__") (Str.ofString "Table.__iter__") (defArgs (inClass (topS 101) 9)) (defBody (inClass (topS 101) 9)) (defScope (inClass (topS 101) 9)) .none .none .none (.str (Str.ofString "seenrows.tables") 1333) none (.ref 958) .none)), #[]⟩) ::
  (nat_lit 972, ⟨(.type "code"), none, (.fields #[(.str (Str.ofString "__eq__") 1477), (.str (Str.ofString "Table.__eq__") 1478), (.str (Str.ofString "/claim/cut.py") 1479), (.int 626 0), (.int 2 0), (.int 0 0), (.int 0 0), (.int 3 0), (.ref 967), (.bool true), (.int 181 0), (.ref 968), .none, (.ref 969), (.ref 970), (.ref 971), (.int 1482 0), (.int 626 0), (.str (Str.ofString "/claim/cut.py") 1483)]), #[]⟩) ::
  (nat_lit 973, ⟨(.type "function"), none, (.func (PySem.W.fnOf (Str.ofString "__eq__") (Str.ofString "Table.__eq__") (defArgs (inClass (topS 101) 11)) (defBody (inClass (topS 101) 11)) (defScope (inClass (topS 101) 11)) .none .none .none (.str (Str.ofString "seenrows.tables") 1333) none (.ref 972) .none)), #[]⟩) ::
  (nat_lit 984, ⟨(.type "code"), none, (.fields #[(.str (Str.ofString "__add__") 1491), (.str (Str.ofString "Table.__add__") 1492), (.str (Str.ofString "/claim/cut.py") 1493), (.int 638 0), (.int 2 0), (.int 0 0), (.int 0 0), (.int 3 0), (.ref 979), (.bool true), (.int 181 0), (.ref 980), .none, (.ref 981), (.ref 982), (.ref 983), (.int 1496 0), (.int 638 0), (.str (Str.ofString "/claim/cut.py") 1497)]), #[]⟩) ::
  (nat_lit 985, ⟨(.type "function"), none, (.func (PySem.W.fnOf (Str.ofString "__add__") (Str.ofString "Table.__add__") (defArgs (inClass (topS 101) 13)) (defBody (inClass (topS 101) 13)) (defScope (inClass (topS 101) 13)) .none .none .none (.str (Str.ofString "seenrows.tables") 1333) none (.ref 984) .none)), #[]⟩) ::
  (nat_lit 997, ⟨(.type "dict"), none, (.dict #[⟨PyData.keyHash P (Str.ofString "__module__"), (.str (Str.ofString "__module__") 1395), (.str (Str.ofString "seenrows.tables") 1333)⟩, ⟨PyData.keyHash P (Str.ofString "__firstlineno__"), (.str (Str.ofString "__firstlineno__") 1399), (.int 577 1398)⟩, ⟨PyData.keyHash P (Str.ofString "__init__"), (.str (Str.ofString "__init__") 1405), (.ref 902)⟩, ⟨PyData.keyHash P (Str.ofString "rows"), (.str (Str.ofString "rows") 1411), (.ref 907)⟩, ⟨PyData.keyHash P (Str.ofString "factors"), (.str (Str.ofString "factors") 1420), (.ref 914)⟩, ⟨PyData.keyHash P (Str.ofString "least"), (.str (Str.ofString "least") 1426), (.ref 919)⟩, ⟨PyData.keyHash P (Str.ofString "rank"), (.str (Str.ofString "rank") 1433), (.ref 926)⟩, ⟨PyData.keyHash P (Str.ofString "rest"), (.str (Str.ofString "rest") 1441), (.ref 933)⟩, ⟨PyData.keyHash P (Str.ofString "checks"), (.str (Str.ofString "checks") 1448), (.ref 940)⟩, ⟨PyData.keyHash P (Str.ofString "__call__"), (.str (Str.ofString "__call__") 1454), (.ref 945)⟩, ⟨PyData.keyHash P (Str.ofString "__len__"), (.str (Str.ofString "__len__") 1461), (.ref 952)⟩, ⟨PyData.keyHash P (Str.ofString "__iter__"), (.str (Str.ofString "__iter__") 1468), (.ref 959)⟩, ⟨PyData.keyHash P (Str.ofString "__contains__"), (.str (Str.ofString "__contains__") 1476), (.ref 966)⟩, ⟨PyData.keyHash P (Str.ofString "__eq__"), (.str (Str.ofString "__eq__") 1484), (.ref 973)⟩, ⟨PyData.keyHash P (Str.ofString "__le__"), (.str (Str.ofString "__le__") 1490), (.ref 978)⟩, ⟨PyData.keyHash P (Str.ofString "__add__"), (.str (Str.ofString "__add__") 1498), (.ref 985)⟩, ⟨PyData.keyHash P (Str.ofString "__mul__"), (.str (Str.ofString "__mul__") 1504), (.ref 990)⟩, ⟨PyData.keyHash P (Str.ofString "__and__"), (.str (Str.ofString "__and__") 1510), (.ref 995)⟩, ⟨PyData.keyHash P (Str.ofString "__static_attributes__"), (.str (Str.ofString "__static_attributes__") 1514), (.ref 996)⟩, ⟨PyData.keyHash P (Str.ofString "__dict__"), (.str (Str.ofString "__dict__") 1516), (.ref 999)⟩, ⟨PyData.keyHash P (Str.ofString "__weakref__"), (.str (Str.ofString "__weakref__") 1518), (.ref 1000)⟩, ⟨PyData.keyHash P (Str.ofString "__doc__"), (.str (Str.ofString "__doc__") 1519), .none⟩, ⟨PyData.keyHash P (Str.ofString "__hash__"), (.str (Str.ofString "__hash__") 1520), .none⟩] 5), #[]⟩) ::
  (nat_lit 998, ⟨(.type "type"), none, (.cls ⟨(Str.ofString "Table"), [(.type "object")], [(.ref 998), (.type "object")], 997, (Str.ofString "Table"), true, [], [], false, none, false⟩), #[none, none, (some (.str (Str.ofString "Table") 1388)), (some (.str (Str.ofString "Table") 1396)), (some (.builtin "object.__new__")), (some (.bool true))]⟩) ::
  (nat_lit 1008, ⟨(.type "code"), none, (.fields #[(.str (Str.ofString "_law_spring") 1525), (.str (Str.ofString "_law_spring") 1526), (.str (Str.ofString "/claim/cut.py") 1527), (.int 660 0), (.int 1 0), (.int 0 0), (.int 0 0), (.int 3 0), (.ref 1003), (.bool true), (.int 181 0), (.ref 1004), .none, (.ref 1005), (.ref 1006), (.ref 1007), (.int 1529 0), (.int 660 0), (.str (Str.ofString "/claim/cut.py") 1530)]), #[]⟩) ::
  (nat_lit 1009, ⟨(.type "function"), none, (.func (PySem.W.fnOf (Str.ofString "_law_spring") (Str.ofString "_law_spring") (defArgs (topS 103)) (defBody (topS 103)) (defScope (topS 103)) .none .none .none (.str (Str.ofString "law_seenrows_k15_tables_made") 1523) none (.ref 1008) .none)), #[]⟩) ::
  (nat_lit 1015, ⟨(.type "code"), none, (.fields #[(.str (Str.ofString "_law_draw") 1532), (.str (Str.ofString "_law_draw") 1533), (.str (Str.ofString "/claim/cut.py") 1534), (.int 662 0), (.int 2 0), (.int 0 0), (.int 0 0), (.int 3 0), (.ref 1010), (.bool true), (.int 181 0), (.ref 1011), .none, (.ref 1012), (.ref 1013), (.ref 1014), (.int 1540 0), (.int 662 0), (.str (Str.ofString "/claim/cut.py") 1541)]), #[]⟩) ::
  (nat_lit 1016, ⟨(.type "function"), none, (.func (PySem.W.fnOf (Str.ofString "_law_draw") (Str.ofString "_law_draw") (defArgs (topS 104)) (defBody (topS 104)) (defScope (topS 104)) .none .none .none (.str (Str.ofString "law_seenrows_k15_tables_made") 1523) none (.ref 1015) .none)), #[]⟩) ::
  (nat_lit 1022, ⟨(.type "code"), none, (.fields #[(.str (Str.ofString "_law_pick") 1543), (.str (Str.ofString "_law_pick") 1544), (.str (Str.ofString "/claim/cut.py") 1545), (.int 676 0), (.int 2 0), (.int 0 0), (.int 0 0), (.int 3 0), (.ref 1017), (.bool true), (.int 181 0), (.ref 1018), .none, (.ref 1019), (.ref 1020), (.ref 1021), (.int 1548 0), (.int 676 0), (.str (Str.ofString "/claim/cut.py") 1549)]), #[]⟩) ::
  (nat_lit 1023, ⟨(.type "function"), none, (.func (PySem.W.fnOf (Str.ofString "_law_pick") (Str.ofString "_law_pick") (defArgs (topS 105)) (defBody (topS 105)) (defScope (topS 105)) .none .none .none (.str (Str.ofString "law_seenrows_k15_tables_made") 1523) none (.ref 1022) .none)), #[]⟩) ::
  (nat_lit 1027, ⟨(.type "code"), none, (.fields #[(.str (Str.ofString "_law_same") 1551), (.str (Str.ofString "_law_same") 1552), (.str (Str.ofString "/claim/cut.py") 1553), (.int 678 0), (.int 2 0), (.int 0 0), (.int 0 0), (.int 3 0), (.ref 1024), (.bool true), (.int 181 0), (.ref 1025), .none, .none, .none, (.ref 1026), (.int 1554 0), (.int 678 0), (.str (Str.ofString "/claim/cut.py") 1555)]), #[]⟩) ::
  (nat_lit 1028, ⟨(.type "function"), none, (.func (PySem.W.fnOf (Str.ofString "_law_same") (Str.ofString "_law_same") (defArgs (topS 106)) (defBody (topS 106)) (defScope (topS 106)) .none .none .none (.str (Str.ofString "law_seenrows_k15_tables_made") 1523) none (.ref 1027) .none)), #[]⟩) ::
  (nat_lit 1032, ⟨(.type "code"), none, (.fields #[(.str (Str.ofString "_law_held") 1557), (.str (Str.ofString "_law_held") 1558), (.str (Str.ofString "/claim/cut.py") 1559), (.int 686 0), (.int 2 0), (.int 0 0), (.int 0 0), (.int 3 0), (.ref 1029), (.bool true), (.int 181 0), (.ref 1030), .none, .none, .none, (.ref 1031), (.int 1560 0), (.int 686 0), (.str (Str.ofString "/claim/cut.py") 1561)]), #[]⟩) ::
  (nat_lit 1033, ⟨(.type "function"), none, (.func (PySem.W.fnOf (Str.ofString "_law_held") (Str.ofString "_law_held") (defArgs (topS 107)) (defBody (topS 107)) (defScope (topS 107)) .none .none .none (.str (Str.ofString "law_seenrows_k15_tables_made") 1523) none (.ref 1032) .none)), #[]⟩) ::
  (nat_lit 1037, ⟨(.type "code"), none, (.fields #[(.str (Str.ofString "_law_pairs") 1563), (.str (Str.ofString "_law_pairs") 1564), (.str (Str.ofString "/claim/cut.py") 1565), (.int 694 0), (.int 1 0), (.int 0 0), (.int 0 0), (.int 3 0), (.ref 1034), (.bool true), (.int 181 0), (.ref 1035), .none, .none, .none, (.ref 1036), (.int 1566 0), (.int 694 0), (.str (Str.ofString "/claim/cut.py") 1567)]), #[]⟩) ::
  (nat_lit 1038, ⟨(.type "function"), none, (.func (PySem.W.fnOf (Str.ofString "_law_pairs") (Str.ofString "_law_pairs") (defArgs (topS 108)) (defBody (topS 108)) (defScope (topS 108)) .none .none .none (.str (Str.ofString "law_seenrows_k15_tables_made") 1523) none (.ref 1037) .none)), #[]⟩) ::
  (nat_lit 1044, ⟨(.type "code"), none, (.fields #[(.str (Str.ofString "_law_drawn") 1569), (.str (Str.ofString "_law_drawn") 1570), (.str (Str.ofString "/claim/cut.py") 1571), (.int 696 0), (.int 4 0), (.int 0 0), (.int 0 0), (.int 3 0), (.ref 1039), (.bool true), (.int 181 0), (.ref 1040), .none, (.ref 1041), (.ref 1042), (.ref 1043), (.int 1579 0), (.int 696 0), (.str (Str.ofString "/claim/cut.py") 1580)]), #[]⟩) ::
  (nat_lit 1045, ⟨(.type "function"), none, (.func (PySem.W.fnOf (Str.ofString "_law_drawn") (Str.ofString "_law_drawn") (defArgs (topS 109)) (defBody (topS 109)) (defScope (topS 109)) .none .none .none (.str (Str.ofString "law_seenrows_k15_tables_made") 1523) none (.ref 1044) .none)), #[]⟩) ::
  (nat_lit 1051, ⟨(.type "code"), none, (.fields #[(.str (Str.ofString "_law_made") 1582), (.str (Str.ofString "_law_made") 1583), (.str (Str.ofString "/claim/cut.py") 1584), (.int 702 0), (.int 2 0), (.int 0 0), (.int 0 0), (.int 3 0), (.ref 1046), (.bool true), (.int 181 0), (.ref 1047), .none, (.ref 1048), (.ref 1049), (.ref 1050), (.int 1587 0), (.int 702 0), (.str (Str.ofString "/claim/cut.py") 1588)]), #[]⟩) ::
  (nat_lit 1052, ⟨(.type "function"), none, (.func (PySem.W.fnOf (Str.ofString "_law_made") (Str.ofString "_law_made") (defArgs (topS 110)) (defBody (topS 110)) (defScope (topS 110)) .none .none .none (.str (Str.ofString "law_seenrows_k15_tables_made") 1523) none (.ref 1051) .none)), #[]⟩) ::
  (nat_lit 1058, ⟨(.type "code"), none, (.fields #[(.str (Str.ofString "_law_is") 1590), (.str (Str.ofString "_law_is") 1591), (.str (Str.ofString "/claim/cut.py") 1592), (.int 704 0), (.int 3 0), (.int 0 0), (.int 0 0), (.int 3 0), (.ref 1053), (.bool true), (.int 181 0), (.ref 1054), .none, (.ref 1055), (.ref 1056), (.ref 1057), (.int 1596 0), (.int 704 0), (.str (Str.ofString "/claim/cut.py") 1597)]), #[]⟩) ::
  (nat_lit 1059, ⟨(.type "function"), none, (.func (PySem.W.fnOf (Str.ofString "_law_is") (Str.ofString "_law_is") (defArgs (topS 111)) (defBody (topS 111)) (defScope (topS 111)) .none .none .none (.str (Str.ofString "law_seenrows_k15_tables_made") 1523) none (.ref 1058) .none)), #[]⟩) ::
  (nat_lit 1065, ⟨(.type "code"), none, (.fields #[(.str (Str.ofString "_law_prime") 1599), (.str (Str.ofString "_law_prime") 1600), (.str (Str.ofString "/claim/cut.py") 1601), (.int 706 0), (.int 1 0), (.int 0 0), (.int 0 0), (.int 3 0), (.ref 1060), (.bool true), (.int 181 0), (.ref 1061), .none, (.ref 1062), (.ref 1063), (.ref 1064), (.int 1603 0), (.int 706 0), (.str (Str.ofString "/claim/cut.py") 1604)]), #[]⟩) ::
  (nat_lit 1066, ⟨(.type "function"), none, (.func (PySem.W.fnOf (Str.ofString "_law_prime") (Str.ofString "_law_prime") (defArgs (topS 112)) (defBody (topS 112)) (defScope (topS 112)) .none .none .none (.str (Str.ofString "law_seenrows_k15_tables_made") 1523) none (.ref 1065) .none)), #[]⟩) ::
  (nat_lit 1070, ⟨(.type "code"), none, (.fields #[(.str (Str.ofString "_law_other") 1606), (.str (Str.ofString "_law_other") 1607), (.str (Str.ofString "/claim/cut.py") 1608), (.int 708 0), (.int 2 0), (.int 0 0), (.int 0 0), (.int 3 0), (.ref 1067), (.bool true), (.int 181 0), (.ref 1068), .none, .none, .none, (.ref 1069), (.int 1609 0), (.int 708 0), (.str (Str.ofString "/claim/cut.py") 1610)]), #[]⟩) ::
  (nat_lit 1071, ⟨(.type "function"), none, (.func (PySem.W.fnOf (Str.ofString "_law_other") (Str.ofString "_law_other") (defArgs (topS 113)) (defBody (topS 113)) (defScope (topS 113)) .none .none .none (.str (Str.ofString "law_seenrows_k15_tables_made") 1523) none (.ref 1070) .none)), #[]⟩) ::
  (nat_lit 1075, ⟨(.type "code"), none, (.fields #[(.str (Str.ofString "_law_row") 1612), (.str (Str.ofString "_law_row") 1613), (.str (Str.ofString "/claim/cut.py") 1614), (.int 710 0), (.int 5 0), (.int 0 0), (.int 0 0), (.int 3 0), (.ref 1072), (.bool true), (.int 181 0), (.ref 1073), .none, .none, .none, (.ref 1074), (.int 1615 0), (.int 710 0), (.str (Str.ofString "/claim/cut.py") 1616)]), #[]⟩) ::
  (nat_lit 1076, ⟨(.type "function"), none, (.func (PySem.W.fnOf (Str.ofString "_law_row") (Str.ofString "_law_row") (defArgs (topS 114)) (defBody (topS 114)) (defScope (topS 114)) .none .none .none (.str (Str.ofString "law_seenrows_k15_tables_made") 1523) none (.ref 1075) .none)), #[]⟩) ::
  (nat_lit 1080, ⟨(.type "code"), none, (.fields #[(.str (Str.ofString "_law_filters") 1618), (.str (Str.ofString "_law_filters") 1619), (.str (Str.ofString "/claim/cut.py") 1620), (.int 712 0), (.int 2 0), (.int 0 0), (.int 0 0), (.int 3 0), (.ref 1077), (.bool true), (.int 181 0), (.ref 1078), .none, .none, .none, (.ref 1079), (.int 1621 0), (.int 712 0), (.str (Str.ofString "/claim/cut.py") 1622)]), #[]⟩) ::
  (nat_lit 1081, ⟨(.type "function"), none, (.func (PySem.W.fnOf (Str.ofString "_law_filters") (Str.ofString "_law_filters") (defArgs (topS 115)) (defBody (topS 115)) (defScope (topS 115)) .none .none .none (.str (Str.ofString "law_seenrows_k15_tables_made") 1523) none (.ref 1080) .none)), #[]⟩) ::
  (nat_lit 1085, ⟨(.type "code"), none, (.fields #[(.str (Str.ofString "_law_row_is") 1624), (.str (Str.ofString "_law_row_is") 1625), (.str (Str.ofString "/claim/cut.py") 1626), (.int 714 0), (.int 3 0), (.int 0 0), (.int 0 0), (.int 3 0), (.ref 1082), (.bool true), (.int 181 0), (.ref 1083), .none, .none, .none, (.ref 1084), (.int 1627 0), (.int 714 0), (.str (Str.ofString "/claim/cut.py") 1628)]), #[]⟩) ::
  (nat_lit 1086, ⟨(.type "function"), none, (.func (PySem.W.fnOf (Str.ofString "_law_row_is") (Str.ofString "_law_row_is") (defArgs (topS 116)) (defBody (topS 116)) (defScope (topS 116)) .none .none .none (.str (Str.ofString "law_seenrows_k15_tables_made") 1523) none (.ref 1085) .none)), #[]⟩) ::
  (nat_lit 1090, ⟨(.type "code"), none, (.fields #[(.str (Str.ofString "_law_table_is") 1630), (.str (Str.ofString "_law_table_is") 1631), (.str (Str.ofString "/claim/cut.py") 1632), (.int 718 0), (.int 4 0), (.int 0 0), (.int 0 0), (.int 3 0), (.ref 1087), (.bool true), (.int 181 0), (.ref 1088), .none, .none, .none, (.ref 1089), (.int 1633 0), (.int 718 0), (.str (Str.ofString "/claim/cut.py") 1634)]), #[]⟩) ::
  (nat_lit 1091, ⟨(.type "function"), none, (.func (PySem.W.fnOf (Str.ofString "_law_table_is") (Str.ofString "_law_table_is") (defArgs (topS 117)) (defBody (topS 117)) (defScope (topS 117)) .none .none .none (.str (Str.ofString "law_seenrows_k15_tables_made") 1523) none (.ref 1090) .none)), #[]⟩) ::
  (nat_lit 1095, ⟨(.type "code"), none, (.fields #[(.str (Str.ofString "_law_table") 1636), (.str (Str.ofString "_law_table") 1637), (.str (Str.ofString "/claim/cut.py") 1638), (.int 725 0), (.int 3 0), (.int 0 0), (.int 0 0), (.int 3 0), (.ref 1092), (.bool true), (.int 181 0), (.ref 1093), .none, .none, .none, (.ref 1094), (.int 1639 0), (.int 725 0), (.str (Str.ofString "/claim/cut.py") 1640)]), #[]⟩) ::
  (nat_lit 1096, ⟨(.type "function"), none, (.func (PySem.W.fnOf (Str.ofString "_law_table") (Str.ofString "_law_table") (defArgs (topS 118)) (defBody (topS 118)) (defScope (topS 118)) .none .none .none (.str (Str.ofString "law_seenrows_k15_tables_made") 1523) none (.ref 1095) .none)), #[]⟩) ::
  (nat_lit 1100, ⟨(.type "code"), none, (.fields #[(.str (Str.ofString "_law_told_rows_right") 1642), (.str (Str.ofString "_law_told_rows_right") 1643), (.str (Str.ofString "/claim/cut.py") 1644), (.int 727 0), (.int 4 0), (.int 0 0), (.int 0 0), (.int 3 0), (.ref 1097), (.bool true), (.int 181 0), (.ref 1098), .none, .none, .none, (.ref 1099), (.int 1645 0), (.int 727 0), (.str (Str.ofString "/claim/cut.py") 1646)]), #[]⟩) ::
  (nat_lit 1101, ⟨(.type "function"), none, (.func (PySem.W.fnOf (Str.ofString "_law_told_rows_right") (Str.ofString "_law_told_rows_right") (defArgs (topS 119)) (defBody (topS 119)) (defScope (topS 119)) .none .none .none (.str (Str.ofString "law_seenrows_k15_tables_made") 1523) none (.ref 1100) .none)), #[]⟩) ::
  (nat_lit 1105, ⟨(.type "code"), none, (.fields #[(.str (Str.ofString "_law_compared_right") 1648), (.str (Str.ofString "_law_compared_right") 1649), (.str (Str.ofString "/claim/cut.py") 1650), (.int 738 0), (.int 6 0), (.int 0 0), (.int 0 0), (.int 3 0), (.ref 1102), (.bool true), (.int 181 0), (.ref 1103), .none, .none, .none, (.ref 1104), (.int 1651 0), (.int 738 0), (.str (Str.ofString "/claim/cut.py") 1652)]), #[]⟩) ::
  (nat_lit 1106, ⟨(.type "function"), none, (.func (PySem.W.fnOf (Str.ofString "_law_compared_right") (Str.ofString "_law_compared_right") (defArgs (topS 120)) (defBody (topS 120)) (defScope (topS 120)) .none .none .none (.str (Str.ofString "law_seenrows_k15_tables_made") 1523) none (.ref 1105) .none)), #[]⟩) ::
  (nat_lit 1110, ⟨(.type "code"), none, (.fields #[(.str (Str.ofString "law") 1654), (.str (Str.ofString "law") 1655), (.str (Str.ofString "/claim/cut.py") 1656), (.int 744 0), (.int 1 0), (.int 0 0), (.int 0 0), (.int 3 0), (.ref 1107), (.bool true), (.int 181 0), (.ref 1108), .none, .none, .none, (.ref 1109), (.int 1657 0), (.int 744 0), (.str (Str.ofString "/claim/cut.py") 1658)]), #[]⟩) ::
  (nat_lit 1111, ⟨(.type "function"), none, (.func (PySem.W.fnOf (Str.ofString "law") (Str.ofString "law") (defArgs (topS 121)) (defBody (topS 121)) (defScope (topS 121)) .none .none .none (.str (Str.ofString "law_seenrows_k15_tables_made") 1523) none (.ref 1110) .none)), #[]⟩) :: []
def KA : List Addr := [nat_lit 2, nat_lit 3, nat_lit 183, nat_lit 189, nat_lit 190, nat_lit 196, nat_lit 197, nat_lit 203, nat_lit 204, nat_lit 210, nat_lit 211, nat_lit 217, nat_lit 218, nat_lit 224, nat_lit 225, nat_lit 307, nat_lit 308, nat_lit 416, nat_lit 417, nat_lit 423, nat_lit 424, nat_lit 440, nat_lit 441, nat_lit 487, nat_lit 488, nat_lit 556, nat_lit 557, nat_lit 565, nat_lit 566, nat_lit 572, nat_lit 573, nat_lit 851, nat_lit 852, nat_lit 896, nat_lit 897, nat_lit 901, nat_lit 902, nat_lit 906, nat_lit 907, nat_lit 951, nat_lit 952, nat_lit 958, nat_lit 959, nat_lit 972, nat_lit 973, nat_lit 984, nat_lit 985, nat_lit 997, nat_lit 998, nat_lit 1008, nat_lit 1009, nat_lit 1015, nat_lit 1016, nat_lit 1022, nat_lit 1023, nat_lit 1027, nat_lit 1028, nat_lit 1032, nat_lit 1033, nat_lit 1037, nat_lit 1038, nat_lit 1044, nat_lit 1045, nat_lit 1051, nat_lit 1052, nat_lit 1058, nat_lit 1059, nat_lit 1065, nat_lit 1066, nat_lit 1070, nat_lit 1071, nat_lit 1075, nat_lit 1076, nat_lit 1080, nat_lit 1081, nat_lit 1085, nat_lit 1086, nat_lit 1090, nat_lit 1091, nat_lit 1095, nat_lit 1096, nat_lit 1100, nat_lit 1101, nat_lit 1105, nat_lit 1106, nat_lit 1110, nat_lit 1111]
def LO : List PySem.Str := ([PySem.Str.ofString "_wall", PySem.Str.ofString "__name__", PySem.Str.ofString "SeenError", PySem.Str.ofString "BadPrime", PySem.Str.ofString "BadTerm", PySem.Str.ofString "UnlikePrimes", PySem.Str.ofString "ZeroFilter", PySem.Str.ofString "BadRule", PySem.Str.ofString "BadDigits", PySem.Str.ofString "BadWidth", PySem.Str.ofString "BadRow", PySem.Str.ofString "UnlikeTables", PySem.Str.ofString "BadSequences", PySem.Str.ofString "PRIMES", PySem.Str.ofString "is_int", PySem.Str.ofString "is_list", PySem.Str.ofString "is_prime", PySem.Str.ofString "is_term", PySem.Str.ofString "first_bad_term", PySem.Str.ofString "is_count", PySem.Str.ofString "is_below", PySem.Str.ofString "is_digit", PySem.Str.ofString "is_digits", PySem.Str.ofString "NARROW", PySem.Str.ofString "NARROW_BITS", PySem.Str.ofString "WIDE", PySem.Str.ofString "WIDE_BITS", PySem.Str.ofString "BLOCK", PySem.Str.ofString "SLOT", PySem.Str.ofString "pack", PySem.Str.ofString "unpack", PySem.Str.ofString "slot_mask", PySem.Str.ofString "lowered", PySem.Str.ofString "narrow_mask", PySem.Str.ofString "without", PySem.Str.ofString "top_slot", PySem.Str.ofString "multiplied", PySem.Str.ofString "NEAR", PySem.Str.ofString "inverse", PySem.Str.ofString "collected"] : List PySem.Str) ++ ([PySem.Str.ofString "long_division", PySem.Str.ofString "divided_from_above", PySem.Str.ofString "divided_from_below", PySem.Str.ofString "remainder", PySem.Str.ofString "near_pairs", PySem.Str.ofString "power_digits", PySem.Str.ofString "stride_of", PySem.Str.ofString "packed_powers", PySem.Str.ofString "packed_sum", PySem.Str.ofString "check_primes", PySem.Str.ofString "check_division", PySem.Str.ofString "scaled", PySem.Str.ofString "places", PySem.Str.ofString "is_dense", PySem.Str.ofString "product", PySem.Str.ofString "divisor_of", PySem.Str.ofString "Filter", PySem.Str.ofString "is_row", PySem.Str.ofString "first_bad_row", PySem.Str.ofString "empty_row", PySem.Str.ofString "unit_row", PySem.Str.ofString "row_times", PySem.Str.ofString "row_minus", PySem.Str.ofString "row_sum", PySem.Str.ofString "reduced", PySem.Str.ofString "without_lead", PySem.Str.ofString "trimmed", PySem.Str.ofString "packed_vector", PySem.Str.ofString "unpacked_vector", PySem.Str.ofString "greatest_sum", PySem.Str.ofString "split", PySem.Str.ofString "gcd", PySem.Str.ofString "lcm", PySem.Str.ofString "top_of", PySem.Str.ofString "expanded", PySem.Str.ofString "sequence_of", PySem.Str.ofString "is_sequences", PySem.Str.ofString "scaled_sequence", PySem.Str.ofString "Sequence", PySem.Str.ofString "vector_of"] : List PySem.Str) ++ ([PySem.Str.ofString "row_of", PySem.Str.ofString "staircase", PySem.Str.ofString "settled", PySem.Str.ofString "cut_down", PySem.Str.ofString "check_tables", PySem.Str.ofString "check_row", PySem.Str.ofString "has_terms", PySem.Str.ofString "least_steps", PySem.Str.ofString "lines_with_tails", PySem.Str.ofString "all_factors", PySem.Str.ofString "applied", PySem.Str.ofString "Table", PySem.Str.ofString "_law_spring", PySem.Str.ofString "_law_draw", PySem.Str.ofString "_law_pick", PySem.Str.ofString "_law_same", PySem.Str.ofString "_law_held", PySem.Str.ofString "_law_pairs", PySem.Str.ofString "_law_drawn", PySem.Str.ofString "_law_made", PySem.Str.ofString "_law_is", PySem.Str.ofString "_law_prime", PySem.Str.ofString "_law_other", PySem.Str.ofString "_law_row", PySem.Str.ofString "_law_filters", PySem.Str.ofString "_law_row_is", PySem.Str.ofString "_law_table_is", PySem.Str.ofString "_law_table", PySem.Str.ofString "_law_told_rows_right", PySem.Str.ofString "_law_compared_right"] : List PySem.Str)
def VV : PySem.Program := PySem.W.view PySem.Challenge.pw_seenrows_k15_tables_made [121]
end SR
lay_quick PySem.Challenge.pw_seenrows_k15_tables_made SR.KK0 SR.KK1 SR.VV SR.LO
set_option maxRecDepth 100000
set_option maxHeartbeats 0
namespace SR
open PySem PySem.W HeadRun PyProof.Rows PySem.Calls
theorem look_l (w : World) (os : OsState) : (endF (stepQ (denQ tabQ) PySem.W.Fast.tw5858615063089688734 w) 7930 PySem.W.Fast.tw5858615063089688734 w os).map (fun s => looksF PySem.W.Fast.tw5858615063089688734 (boot_heap w.params) s.abs) = some true := by kernel_rfl
theorem look_s (w : World) (os : OsState) : (endF (stepQ (denQ tabQ) PySem.W.Fast.tw5858615063089688734 w) 7930 PySem.W.Fast.tw5858615063089688734 w os).map (fun s => seenQ PySem.W.Fast.tw12481167789305635118 PySem.W.Fast.tw4387945433670703405 (importedModules PySem.W.Fast.tw5858615063089688734.main.body) (fun s => xlAt PySem.W.Fast.tw12481167789305635118 [] s && recOk (RowW.records (OpenRow.toRowW (PySem.W.OpenLaw.row PySem.Challenge.rw_seenrows_k15_tables_made))) s) s.abs) = some (openGood PySem.W.Fast.tw12481167789305635118 PySem.W.Fast.tw4387945433670703405) := by kernel_rfl
theorem look_k0 (w : World) (os : OsState) : (endF (stepQ (denQ tabQ) PySem.W.Fast.tw5858615063089688734 w) 7930 PySem.W.Fast.tw5858615063089688734 w os).map (fun s => KA0.map (getT s)) = some ((PySem.W.Fast.tw8986227453893839255 w.params).map fun x => some x.2) := by kernel_rfl
theorem look_k1 (w : World) (os : OsState) : (endF (stepQ (denQ tabQ) PySem.W.Fast.tw5858615063089688734 w) 7930 PySem.W.Fast.tw5858615063089688734 w os).map (fun s => KA1.map (getT s)) = some ((PySem.W.Fast.tw17149621385884660539 w.params).map fun x => some x.2) := by kernel_rfl
theorem map_app {α β γ : Type} {x : Option α} {as bs : List β} {g : α → β → γ} {c d : List γ} (h1 : Option.map (fun s => as.map (g s)) x = some c) (h2 : Option.map (fun s => bs.map (g s)) x = some d) : Option.map (fun s => (as ++ bs).map (g s)) x = some (c ++ d) := by
  cases x with
  | none => cases h1
  | some s =>
    have e1 : as.map (g s) = c := Option.some.inj h1
    have e2 : bs.map (g s) = d := Option.some.inj h2
    show some ((as ++ bs).map (g s)) = _
    rw [List.map_append, e1, e2]
theorem triple {α β γ δ : Type} {x : Option α} {f : α → β} {g : α → γ} {h : α → δ} {b : β} {c : γ} {d : δ} (h1 : Option.map f x = some b) (h2 : Option.map g x = some c) (h3 : Option.map h x = some d) : Option.map (fun s => (f s, g s, h s)) x = some (b, c, d) := by
  cases x with
  | none => cases h1
  | some s =>
    have e1 : f s = b := Option.some.inj h1
    have e2 : g s = c := Option.some.inj h2
    have e3 : h s = d := Option.some.inj h3
    show some (f s, g s, h s) = some (b, c, d)
    rw [e1, e2, e3]
theorem ka_eq : KA = (KA0 ++ KA1) := by kernel_rfl
theorem kk_eq (P : Params) : KK P = (KK0 P ++ KK1 P) := by kernel_rfl
theorem kk_as (P : Params) : KA = (KK P).map (·.1) := by kernel_rfl
theorem look_k (w : World) (os : OsState) : (endF (stepQ (denQ tabQ) PySem.W.Fast.tw5858615063089688734 w) 7930 PySem.W.Fast.tw5858615063089688734 w os).map (fun s => KA.map (getT s)) = some ((KK w.params).map fun x => some x.2) := by
  rw [ka_eq, kk_eq, List.map_append, show KK0 = PySem.W.Fast.tw8986227453893839255 from PySem.W.Fast.te8986227453893839255, show KK1 = PySem.W.Fast.tw17149621385884660539 from PySem.W.Fast.te17149621385884660539]
  exact map_app (look_k0 w os) (look_k1 w os)
theorem run_all (w : World) : RunEq (PySem.W.OpenLaw.row PySem.Challenge.rw_seenrows_k15_tables_made) VV (kHook KK KA kk_as) (fun s => KA.map (getT s)) 7930 LO w := by
  intro os
  show (endF (stepQ (denQ tabQ) PySem.Challenge.pw_seenrows_k15_tables_made w) 7930 PySem.Challenge.pw_seenrows_k15_tables_made w os).map (fun s => (looksF PySem.Challenge.pw_seenrows_k15_tables_made (boot_heap w.params) s.abs, seenQ VV LO (importedModules PySem.Challenge.pw_seenrows_k15_tables_made.main.body) (fun s => xlAt VV [] s && recOk (RowW.records (OpenRow.toRowW (PySem.W.OpenLaw.row PySem.Challenge.rw_seenrows_k15_tables_made))) s) s.abs, KA.map (getT s))) = some (true, openGood VV LO, (KK w.params).map fun x => some x.2)
  rw [show PySem.Challenge.pw_seenrows_k15_tables_made = PySem.W.Fast.tw5858615063089688734 from PySem.W.Fast.te5858615063089688734, show VV = PySem.W.Fast.tw12481167789305635118 from PySem.W.Fast.te12481167789305635118, show LO = PySem.W.Fast.tw4387945433670703405 from PySem.W.Fast.te4387945433670703405]
  exact triple (look_l w os) (look_s w os) (look_k w os)
theorem ob_eq (s : SharedT) : KA.map (getT s) = (kHook KK KA kk_as).obs s.abs := List.map_congr_left fun a _ => getT_eq s a
end SR
set_option maxRecDepth 100000
open PySem PySem.W PyProof.Rows
set_option maxRecDepth 100000 in
set_option maxHeartbeats 0 in
theorem PySem.Challenge.cw_seenrows_k15_tables_made_holds : PySem.Challenge.rw_seenrows_k15_tables_made.Holds := by
  w_on; o_law
  refine HeadRun.head_any (r := (PySem.W.OpenLaw.row PySem.Challenge.rw_seenrows_k15_tables_made)) (q := SR.VV) (H := kHook SR.KK SR.KA SR.kk_as) (ob := fun s => SR.KA.map (HeadRun.getT s)) (M := 7930) (loose := SR.LO) (d := HeadRun.topDef (PySem.W.OpenLaw.row PySem.Challenge.rw_seenrows_k15_tables_made).prog 121) (kwd := []) SR.ob_eq
    (by kernel_rfl) (fun s => by kernel_rfl) SR.run_all (by kernel_rfl) (by kernel_rfl) (by kernel_rfl) (by rfl) (by first | assumption | decide +kernel) (by decide +kernel) ⟨rfl, rfl, rfl, rfl, rfl, by decide +kernel⟩ ?hw ?hc
  case hw => w_witness2
  case hc =>
    k_fill
    refine SR.walk (l := PySem.Challenge.rw_seenrows_k15_tables_made) rfl rfl (fun w h Y => PySem.W.kIn_of Y) ?F
    case F =>
      intro w mg fa h KX G hmg
      refine' SR.all_mk KX G hmg ?aC ?pg ?hdi ?po ?sa ?mk ?kc ?n1 ?n2 ?n3 ?cC ?tyC ?tk_NoneType ?tk_bool ?tk_int ?tk_str ?tk_list ?tk_tuple ?tk_dict ?to_int ?to_bool ?to_list ?to_tuple ?tca ?tcn ?tct ?tcm ?z_len ?z_isinstance ?z_int ?z_bool ?z_list ?z_tuple ?z_dict ?z_sorted ?z_enumerate ?z_zip ?z_range ?z_all ?z_any ?z_reversed ?z_sum ?z_min ?z_max ?z_abs ?aPr ?lP ?aIn ?iIn ?lIn ?cIn ?kIn ?lT ?lE ?aC2 ?pg2 ?hdi2 ?po2 ?sa2 ?mk2 ?kc2 ?m1 ?m2 ?m3 ?cC2 ?tyC2 ?tk2_NoneType ?tk2_bool ?tk2_int ?tk2_str ?tk2_list ?tk2_tuple ?tk2_dict ?to2_int ?to2_bool ?to2_list ?to2_tuple ?tca2 ?tcm2 ?s12 ?s21 ?tl ?z_iter ?aIn2 ?iIn2 ?lIn2 ?cIn2 ?kIn2 ?lT1 ?lE1 ?sf2 ?mro2 ?ne2 ?i1A ?i2A ?aTe ?iTe ?lTe ?cTe ?kTe ?aEq ?iEq ?jEq ?lEq ?cEq ?kEq ?aRo ?iRo ?lRo ?cRo ?kRo ?aTl ?iTl ?jTl ?lTl ?cTl ?kTl ?aTi ?iTi ?lTi ?cTi ?kTi ?aTq ?iTq ?jTq ?lTq ?cTq ?kTq ?aTa ?iTa ?lTa ?cTa ?kTa ?aII ?lII ?cII ?kII ?aIL ?lIL ?cIL ?kIL ?aIP ?lIP ?cIP ?kIP ?aIT ?lIT ?cIT ?kIT ?aFB ?lFB ?cFB ?kFB ?aCO ?lCO ?cCO ?kCO ?aIC ?lIC ?cIC ?kIC ?aIR ?lIR ?cIR ?kIR ?aFR ?lFR ?cFR ?kFR ?aCT ?lCT ?cCT ?kCT ?aLS ?lLS ?cLS ?kLS ?aLD ?lLD ?cLD ?kLD ?aLP ?lLP ?cLP ?kLP ?aLM ?lLM ?cLM ?kLM ?aLH ?lLH ?cLH ?kLH ?aLA ?lLA ?cLA ?kLA ?aLN ?lLN ?cLN ?kLN ?aLE ?lLE ?cLE ?kLE ?aLI ?lLI ?cLI ?kLI ?aLR ?lLR ?cLR ?kLR ?aLO ?lLO ?cLO ?kLO ?aLW ?lLW ?cLW ?kLW ?aLF ?lLF ?cLF ?kLF ?aLG ?lLG ?cLG ?kLG ?aLT ?lLT ?cLT ?kLT ?aLB ?lLB ?cLB ?kLB ?aLK ?lLK ?cLK ?kLK ?aLC ?lLC ?cLC ?kLC ?aLL ?lLL ?cLL ?kLL ?hCC
      (case aC => k_is)
      (case pg => k_is)
      (case hdi => k_is)
      (case po => k_is)
      (case sa => k_is)
      (case mk => k_is)
      (case kc => k_is)
      (case n1 => k_is)
      (case n2 => k_is)
      (case n3 => k_is)
      (case cC => k_is)
      (case tyC => k_is)
      (case tk_NoneType => k_is)
      (case tk_bool => k_is)
      (case tk_int => k_is)
      (case tk_str => k_is)
      (case tk_list => k_is)
      (case tk_tuple => k_is)
      (case tk_dict => k_is)
      (case to_int => k_is)
      (case to_bool => k_is)
      (case to_list => k_is)
      (case to_tuple => k_is)
      (case tca => k_is)
      (case tcn => k_is)
      (case tct => k_is)
      (case tcm => k_is)
      (case z_len => k_is)
      (case z_isinstance => k_is)
      (case z_int => k_is)
      (case z_bool => k_is)
      (case z_list => k_is)
      (case z_tuple => k_is)
      (case z_dict => k_is)
      (case z_sorted => k_is)
      (case z_enumerate => k_is)
      (case z_zip => k_is)
      (case z_range => k_is)
      (case z_all => k_is)
      (case z_any => k_is)
      (case z_reversed => k_is)
      (case z_sum => k_is)
      (case z_min => k_is)
      (case z_max => k_is)
      (case z_abs => k_is)
      (case aPr => k_is)
      (case lP => k_is)
      (case aIn => k_is)
      (case iIn => k_is)
      (case lIn => k_is)
      (case cIn => k_is)
      (case kIn => k_is)
      (case lT => k_is)
      (case lE => k_is)
      (case aC2 => k_is)
      (case pg2 => k_is)
      (case hdi2 => k_is)
      (case po2 => k_is)
      (case sa2 => k_is)
      (case mk2 => k_is)
      (case kc2 => k_is)
      (case m1 => k_is)
      (case m2 => k_is)
      (case m3 => k_is)
      (case cC2 => k_is)
      (case tyC2 => k_is)
      (case tk2_NoneType => k_is)
      (case tk2_bool => k_is)
      (case tk2_int => k_is)
      (case tk2_str => k_is)
      (case tk2_list => k_is)
      (case tk2_tuple => k_is)
      (case tk2_dict => k_is)
      (case to2_int => k_is)
      (case to2_bool => k_is)
      (case to2_list => k_is)
      (case to2_tuple => k_is)
      (case tca2 => k_is)
      (case tcm2 => k_is)
      (case s12 => k_is)
      (case s21 => k_is)
      (case tl => k_is)
      (case z_iter => k_is)
      (case aIn2 => k_is)
      (case iIn2 => k_is)
      (case lIn2 => k_is)
      (case cIn2 => k_is)
      (case kIn2 => k_is)
      (case lT1 => k_is)
      (case lE1 => k_is)
      (case sf2 => k_is)
      (case mro2 => exact rfl)
      (case ne2 => k_is)
      (case i1A => k_is)
      (case i2A => k_is)
      (case aTe => k_is)
      (case iTe => k_is)
      (case lTe => k_is)
      (case cTe => k_is)
      (case kTe => k_is)
      (case aEq => k_is)
      (case iEq => k_is)
      (case jEq => k_is)
      (case lEq => k_is)
      (case cEq => k_is)
      (case kEq => k_is)
      (case aRo => k_is)
      (case iRo => k_is)
      (case lRo => k_is)
      (case cRo => k_is)
      (case kRo => k_is)
      (case aTl => k_is)
      (case iTl => k_is)
      (case jTl => k_is)
      (case lTl => k_is)
      (case cTl => k_is)
      (case kTl => k_is)
      (case aTi => k_is)
      (case iTi => k_is)
      (case lTi => k_is)
      (case cTi => k_is)
      (case kTi => k_is)
      (case aTq => k_is)
      (case iTq => k_is)
      (case jTq => k_is)
      (case lTq => k_is)
      (case cTq => k_is)
      (case kTq => k_is)
      (case aTa => k_is)
      (case iTa => k_is)
      (case lTa => k_is)
      (case cTa => k_is)
      (case kTa => k_is)
      (case aII => k_is)
      (case lII => k_is)
      (case cII => k_is)
      (case kII => k_is)
      (case aIL => k_is)
      (case lIL => k_is)
      (case cIL => k_is)
      (case kIL => k_is)
      (case aIP => k_is)
      (case lIP => k_is)
      (case cIP => k_is)
      (case kIP => k_is)
      (case aIT => k_is)
      (case lIT => k_is)
      (case cIT => k_is)
      (case kIT => k_is)
      (case aFB => k_is)
      (case lFB => k_is)
      (case cFB => k_is)
      (case kFB => k_is)
      (case aCO => k_is)
      (case lCO => k_is)
      (case cCO => k_is)
      (case kCO => k_is)
      (case aIC => k_is)
      (case lIC => k_is)
      (case cIC => k_is)
      (case kIC => k_is)
      (case aIR => k_is)
      (case lIR => k_is)
      (case cIR => k_is)
      (case kIR => k_is)
      (case aFR => k_is)
      (case lFR => k_is)
      (case cFR => k_is)
      (case kFR => k_is)
      (case aCT => k_is)
      (case lCT => k_is)
      (case cCT => k_is)
      (case kCT => k_is)
      (case aLS => k_is)
      (case lLS => k_is)
      (case cLS => k_is)
      (case kLS => k_is)
      (case aLD => k_is)
      (case lLD => k_is)
      (case cLD => k_is)
      (case kLD => k_is)
      (case aLP => k_is)
      (case lLP => k_is)
      (case cLP => k_is)
      (case kLP => k_is)
      (case aLM => k_is)
      (case lLM => k_is)
      (case cLM => k_is)
      (case kLM => k_is)
      (case aLH => k_is)
      (case lLH => k_is)
      (case cLH => k_is)
      (case kLH => k_is)
      (case aLA => k_is)
      (case lLA => k_is)
      (case cLA => k_is)
      (case kLA => k_is)
      (case aLN => k_is)
      (case lLN => k_is)
      (case cLN => k_is)
      (case kLN => k_is)
      (case aLE => k_is)
      (case lLE => k_is)
      (case cLE => k_is)
      (case kLE => k_is)
      (case aLI => k_is)
      (case lLI => k_is)
      (case cLI => k_is)
      (case kLI => k_is)
      (case aLR => k_is)
      (case lLR => k_is)
      (case cLR => k_is)
      (case kLR => k_is)
      (case aLO => k_is)
      (case lLO => k_is)
      (case cLO => k_is)
      (case kLO => k_is)
      (case aLW => k_is)
      (case lLW => k_is)
      (case cLW => k_is)
      (case kLW => k_is)
      (case aLF => k_is)
      (case lLF => k_is)
      (case cLF => k_is)
      (case kLF => k_is)
      (case aLG => k_is)
      (case lLG => k_is)
      (case cLG => k_is)
      (case kLG => k_is)
      (case aLT => k_is)
      (case lLT => k_is)
      (case cLT => k_is)
      (case kLT => k_is)
      (case aLB => k_is)
      (case lLB => k_is)
      (case cLB => k_is)
      (case kLB => k_is)
      (case aLK => k_is)
      (case lLK => k_is)
      (case cLK => k_is)
      (case kLK => k_is)
      (case aLC => k_is)
      (case lLC => k_is)
      (case cLC => k_is)
      (case kLC => k_is)
      (case aLL => k_is)
      (case lLL => k_is)
      (case cLL => k_is)
      (case kLL => k_is)
      (case hCC => decide)
  
