import PyProof.Rows.All
import Wide.All
import OpenK.AllK
import Wide.FinOn
import KE.GoesMore
import KE.GoesEnum
import PyProof.EqAt
import PyProof.EqKinds
import PyProof.TupleCall
import PyProof.InstEq
import KE.KDictPairs
import KE.KFmtOwn
import HandS.ForMost
import HandS.Evl
import HandS.IsInst
import HandS.More
import HandS.ClsMeth
import HandS.Defaults
import HandS.CallLocal
import HandS.NoneIn
import HandS.SortInts
import HandS.Style
import HandS.Wide
import HandS.TupAny
import HandS.Slots
import HandS.SlotsOwn
import HandS.Walk
import HandS.Zip
import HandS.Rev
import HandS.Small
import KE.KOpsOwn
import HandS.ForExc
import HandS.TryMany
import HandS.ExcOwn
import HandS.WordsExc
import HandS.TryOnly
import HandS.ExcInit
import HandS.ExcField
import HandS.ExcValue
import HandS.MakeKwOnly
import HandS.Ends
import KE.KExcIs
import PyProof.ReprRoads
import KE.HD2
import PySem.Challenge.RW_seenrows_k27_errors_made
set_option Elab.async false
set_option linter.all false
set_option maxRecDepth 100000
set_option maxHeartbeats 4000000
/-! Rules for instances of an own class: ==, !=, [], bool, + - * // % with a dunder of its own. -/
namespace SR
open PySem PySem.Spec PyProof.Rows L2

section
variable {X : Cx} {CX : CXT} {pins : List (Addr × Obj)} {σ : L2.St} {H : Hp} {s : Shared} {a C dx g : Addr} {fs : List (Str × V)} {fd : FuncData} {ps : List Str} {n : Nat} {sp : Sp} {E : XK}

theorem ins_inst (I : Inv X pins σ H s) (ea : H a = some (.ins C dx fs)) : ∃ od, PySem.W.InstAt s.heap a (PySem.W.instObj C dx) C (some od) := by
  obtain ⟨mA, O, _⟩ := ins_get I.hok ea
  obtain ⟨od, J, _⟩ := O.look
  exact ⟨od, J⟩

/-- x == y, x an instance of the class at C whose __eq__ is at g; y anything whose type is known -/
def rEqOwn (K : PySem.W.Frag) (C : Addr) (sp : Sp) (E : XK) : R2 := fun x y H Q => ∃ a dx fs t, x = .ref a ∧ H a = some (.ins C dx fs) ∧ TyX K H y t ∧ PySem.W.notFirst K C t = true ∧ sp [x, y] H (fun z H' => ∃ b, z = .bl b ∧ Q (.bl b) H') E
theorem op_eqOwn (hs : PySem.W.findIn X.K (.ref C) "__eq__" = some (some (.ref g))) (hf : PySem.W.isFn X.K (.ref g) = true) (F : FnOk X.prog X.w X.K X.mg X.base CX n g fd ps sp)
    (hr : Room n X.A) (hb : Binds X.K fd ps []) (hx : Passes CX X E) : OpR X (compareOp .Eq) (rEqOwn X.K C sp E) := by
  intro pins s σ H x y v u Q I rx ry h
  obtain ⟨a, dx, fs, t, rfl, ha, ty, hn, q⟩ := h
  cases (show v = Value.ref a from rx)
  obtain ⟨od, J⟩ := ins_inst I ha
  obtain ⟨P, Z, p, hx'⟩ := kit_of I ry ty
  obtain ⟨m, hF⟩ := I.fr
  show wpAny _ _ (richCompare .Eq (.ref a) u) _ _ _
  refine PySem.W.cmp_K (op := .Eq) (tb := t) hr.units0 hF I.ok.mod.kin J (Z.ty _ _ I.kIn p) hn hs hf ?_
  refine wpAny_mono (run_fn (us := [.ref a, u]) (vs := [.ref a, y]) F hr hb .nil hx I (.cons rfl (.cons ry .nil)) (by exact q)) (fun w s' z => ?_) fun _ _ x => x
  obtain ⟨z', H', I', rz, b, rfl, qz⟩ := z
  cases (show w = Value.bool b from rz)
  exact ⟨.bl b, H', I', rfl, qz⟩
end

section
variable {prog : Program} {w : World} {A : Around} {E : Value → Shared → Prop} {s : Shared} {K : PySem.W.Frag} {x C L f : Addr} {h₀ : Heap} {m : Str → Option Value} {ox : Obj} {od : Option Obj} {name : Str} {b tb : Value}
open PySem.W in
theorem ifBound_bi {M : Model} {id : String} {args : List Value} {Q : Option Value → Shared → Prop} (X : K.In s.heap) (I : InstAt s.heap x ox C od) (hs : findIn K (.ref C) name = some (some (.builtin id)))
    (hb : ∀ self, bindSpecial (.builtin id) self = pure (.builtin id, [self]))
    (h : wpAny M A (call (.builtin id) (.ref x :: args)) (fun v => Q (some v)) E s) : wpAny M A (callSpecialIfBound? (.ref x) name args) Q E s := by
  simp only [callSpecialIfBound?, bindSpecialIfBound?]
  refine wpAny_holding (wpAny_bind (wpAny_bind (wpAny_bind (I.type.here ((looks_findIn X hs).here ?_)))))
  refine wpAny_bind (wpAny_askSetting (wpAny_ite ?_))
  have fin : wpAny M A (call (.builtin id) ([.ref x] ++ args) >>= fun v => pure (some v)) Q E s := wpAny_bind (wpAny_mono h (fun v s' h' => wpAny_pure h') fun _ _ h' => h')
  split
  · exact wpAny_bind ((Looks.of_pure (hb _)).here (wpAny_pure (by exact fin)))
  · exact wpAny_tryCatch (wpAny_bind ((Looks.of_pure (hb _)).here (wpAny_pure (by exact fin))))
open PySem.W in
/-- a comparison whose first try gives a value -/
theorem cmp_first {op : CmpOp} {Q : Value → Shared → Prop} (hu : A.units < cLine) (X : K.In s.heap) (I : InstAt s.heap x ox C od) (hb : Looks (model prog w) s.heap (typeOf b) tb) (hn : notFirst K C tb = true)
    (one : wpAny (model prog w) A (tryCompare (.ref x) (cmpInfo op).2.1 b) (fun r s' => ∃ v, r = some v ∧ Q v s') E s) : wpAny (model prog w) A (richCompare op (.ref x) b) Q E s := by
  unfold richCompare
  simp only [oneThing_ref]
  refine wpAny_holding (wpAny_bind (wpAny_cRoomFor hu ?_))
  refine wpAny_bind (I.type.here (wpAny_bind (hb.here ?_)))
  split
  · rename_i q
    have e : subIn K tb (.ref C) = some false := by
      rcases Bool.or_eq_true_iff.mp hn with e | e
      · rw [beq_iff_eq.mp e] at q; simp at q
      · exact beq_iff_eq.mp e
    refine wpAny_bind ((looks_subIn X e).here ?_)
    simp only [Bool.false_eq_true, if_false]
    refine wpAny_bind (wpAny_mono one (fun r s' z => ?_) fun _ _ e => e)
    obtain ⟨v, rfl, hq⟩ := z
    exact wpAny_pure hq
  · refine wpAny_bind (wpAny_pure ?_)
    simp only [Bool.false_eq_true, if_false]
    refine wpAny_bind (wpAny_mono one (fun r s' z => ?_) fun _ _ e => e)
    obtain ⟨v, rfl, hq⟩ := z
    exact wpAny_pure hq
open PySem.W Builtin in
theorem obj_ne {Q : Value → Shared → Prop} (hu : A.in1.units < cLine) (X : K.In s.heap) (I : InstAt s.heap x ox C od) (hm : mroIn K C (.type "object") = some true) (hs : findIn K (.ref C) "__eq__" = some (some (.ref f))) (hf : isFn K (.ref f) = true)
    (h : wpAny (model prog w) A.in1 (call (.ref f) [.ref x, b]) (fun v s' => ∃ k, v = .bool k ∧ Q (.bool (!k)) s') E s) : wpAny (model prog w) A (call (.builtin "object.__ne__") [.ref x, b]) Q E s := by
  refine wpAny_call (codeAny_call_builtin PySem.F.cmp_object.ne.plain PySem.F.cmpEntry_ne (check_slot (i := "object.__ne__") (owner := "object") (n := "__ne__") PySem.F.cmpKind_ne PySem.F.cmpSplit_ne (I.type.andThen (looks_mroIn X hm)) (PySem.F.cmpArgs_ne _ _) ?_))
  unfold Builtin.«object.__ne__»
  refine wpAny_bind (m := slotArgs "__ne__" 1 _) (wpAny_pure ?_)
  refine wpAny_bind (m := cRoomFor _ _) (wpAny_cRoomFor hu ?_)
  refine wpAny_bind (m := callSpecialIfBound? (.ref x) (Str.ofString "__eq__") _) (ifBound_K X I hs hf (wpAny_mono h (fun r s' hq => ?_) fun _ _ y => y))
  obtain ⟨k, rfl, hq⟩ := hq
  refine wpAny_bind (m := truthy (.bool k)) (wpAny_truthy_bool ?_)
  exact wpAny_pure hq
open PySem.W in
theorem ne_own {Q : Value → Shared → Prop} (hu : A.units + 2 < cLine) (X : K.In s.heap) (I : InstAt s.heap x ox C od) (hb : Looks (model prog w) s.heap (typeOf b) tb) (hn : notFirst K C tb = true) (hm : mroIn K C (.type "object") = some true)
    (hne : findIn K (.ref C) "__ne__" = some (some (.builtin "object.__ne__"))) (hs : findIn K (.ref C) "__eq__" = some (some (.ref f))) (hf : isFn K (.ref f) = true)
    (h : wpAny (model prog w) A.in1 (call (.ref f) [.ref x, b]) (fun v s' => ∃ k, v = .bool k ∧ Q (.bool (!k)) s') E s) : wpAny (model prog w) A (richCompare .NotEq (.ref x) b) Q E s := by
  refine cmp_first (op := .NotEq) (by omega) X I hb hn ?_
  unfold tryCompare
  refine wpAny_bind (ifBound_bi X I hne PySem.F.cmp_object.ne.bind (obj_ne (by show A.units + 1 < cLine; omega) X I hm hs hf (wpAny_mono h (fun r s' hq => ?_) fun _ _ y => y)))
  obtain ⟨k, rfl, hq⟩ := hq
  exact ⟨k, rfl, wpAny_pure ⟨_, rfl, hq⟩⟩
end
section
variable {X : Cx} {CX : CXT} {pins : List (Addr × Obj)} {σ : L2.St} {H : Hp} {s : Shared} {a C dx g : Addr} {fs : List (Str × V)} {fd : FuncData} {ps : List Str} {n : Nat} {sp : Sp} {E : XK}
/-- the callee runs one room deeper -/
theorem run_fn1 {Q : VK} {us : List Value} {vs : List V} (F : FnOk X.prog X.w X.K X.mg X.base CX n g fd ps sp) (hr : Room (n + 1) X.A) (hb : Binds X.K fd ps []) (hx : Passes CX X E) (I : Inv X pins σ H s) (r : Vals vs us) (h : sp vs H Q E) :
    wpAny (model X.prog X.w) X.A.in1 (call (.ref g) us) (EP X pins σ Q) X.xe s := by
  have hl : (us ++ []).length = ps.length := by rw [List.append_nil, ← r.length]; exact F.len _ _ _ _ h
  have hb' := hb s us I.kIn hl
  rw [List.append_nil] at hb'
  refine wpAny_call (codeAny_mono (F.run X.A.in1 X.stack s H ⟨us, []⟩ us vs Q E hr.in1 I.env0.in1 hb' r h) fun r s' hq => ?_)
  cases r with
  | error e => exact hx pins σ H s e s' I hq
  | ok fl =>
    cases fl with
    | ret u => exact I.after hq
    | next => exact False.elim hq
    | brk => exact False.elim hq
    | cont => exact False.elim hq
def rNeOwn (K : PySem.W.Frag) (C : Addr) (sp : Sp) (E : XK) : R2 := fun x y H Q => ∃ a dx fs t, x = .ref a ∧ H a = some (.ins C dx fs) ∧ TyX K H y t ∧ PySem.W.notFirst K C t = true ∧ sp [x, y] H (fun z H' => ∃ b, z = .bl b ∧ Q (.bl (!b)) H') E
theorem op_neOwn (hs : PySem.W.findIn X.K (.ref C) "__eq__" = some (some (.ref g))) (hf : PySem.W.isFn X.K (.ref g) = true) (hne : PySem.W.findIn X.K (.ref C) "__ne__" = some (some (.builtin "object.__ne__"))) (hm : PySem.W.mroIn X.K C (.type "object") = some true)
    (F : FnOk X.prog X.w X.K X.mg X.base CX n g fd ps sp) (hr : Room (n + 1) X.A) (hb : Binds X.K fd ps []) (hx : Passes CX X E) : OpR X (compareOp .NotEq) (rNeOwn X.K C sp E) := by
  intro pins s σ H x y v u Q I rx ry h
  obtain ⟨a, dx, fs, t, rfl, ha, ty, hn, q⟩ := h
  cases (show v = Value.ref a from rx)
  obtain ⟨od, J⟩ := ins_inst I ha
  obtain ⟨P, Z, p, hx'⟩ := kit_of I ry ty
  show wpAny _ _ (richCompare .NotEq (.ref a) u) _ _ _
  refine ne_own (tb := t) (by have := hr.units; omega) I.kIn J (Z.ty _ _ I.kIn p) hn hm hne hs hf ?_
  refine wpAny_mono (run_fn1 (us := [.ref a, u]) (vs := [.ref a, y]) F hr hb hx I (.cons rfl (.cons ry .nil)) (by exact q)) (fun w s' z => ?_) fun _ _ x => x
  obtain ⟨z', H', I', rz, b, rfl, qz⟩ := z
  cases (show w = Value.bool b from rz)
  exact ⟨b, rfl, .bl (!b), H', I', rfl, qz⟩
end

section
variable {prog : Program} {w : World} {A : Around} {E : Value → Shared → Prop} {s : Shared} {K : PySem.W.Frag} {x C f : Addr} {ox : Obj} {od : Option Obj}
open PySem.W Builtin in
theorem truthy_own {M : Model} {Q : Bool → Shared → Prop} (X : K.In s.heap) (I : InstAt s.heap x ox C od) (hs : findIn K (.ref C) "__bool__" = some (some (.ref f))) (hf : isFn K (.ref f) = true)
    (h : wpAny M A (call (.ref f) [.ref x]) (fun v s' => ∃ b, v = .bool b ∧ Q b s') E s) : wpAny M A (truthy (.ref x)) Q E s := by
  unfold truthy
  refine wpAny_bind (m := callSpecial? (.ref x) (Str.ofString "__bool__")) (special_fn X I hs (beq_iff_eq.mp hf) (wpAny_mono h (fun r s' hr => ?_) fun _ _ y => y))
  obtain ⟨b, rfl, q⟩ := hr
  exact wpAny_pure q
open Builtin in
/-- bool(x) by x's truth -/
theorem bool_of {x : Value} {Q : Value → Shared → Prop} (h : wpAny (model prog w) A.in1.in1 (truthy x) (fun b s' => Q (.bool b) s') E s) : wpAny (model prog w) A (call (.type "bool") [x]) Q E s := by
  refine callType_codes (T := "bool") (Bi := Builtin.«object.__init__») (Q₁ := fun r s₁ => ∃ b, r = Value.bool b ∧ Q r s₁) PySem.F.called_bool (PySem.F.typeCall_bool_1 _) PySem.F.entry_object_init ?_ ?_
  · refine codeAny_of_tree ?_
    show wpAny _ A.in1.in1 (do checkBuiltinCall "bool.__new__" ⟨[.type "bool", x], []⟩; again (.builtin "bool.__new__" ⟨[.type "bool", x], []⟩)) _ _ s
    refine wpAny_bind (wpAny_of_eq (PySem.F.newCall_bool_1 _) (wpAny_pure ⟨plainId_quiet (by decide +kernel) _, codeAny_builtin PySem.F.entry_bool_new ?_⟩))
    rw [Around.under_plainId (by decide +kernel) _]
    unfold Builtin.«bool.__new__»
    refine wpAny_bind (wpAny_of_eq (a := true) (by first | rfl | kernel_rfl) ?_)
    refine PySem.W.KFB.if_not rfl ?_
    refine wpAny_bind (wpAny_of_eq (a := true) PySem.F.conv_sub_bool ?_)
    refine PySem.W.KFB.if_not rfl ?_
    refine wpAny_bind (m := someArgs "bool" 0 1 _) (wpAny_of_eq (a := [x]) (by first | rfl | kernel_rfl) ?_)
    refine wpAny_bind (wpAny_mono h (fun b s' q => ?_) fun _ _ y => y)
    exact wpAny_pure ⟨b, rfl, q⟩
  · rintro obj s₁ ⟨b, rfl, hq⟩
    exact ⟨rfl, PySem.F.args_object_init_2 _ _, object_init_meets PySem.F.called_bool.init.lookup PySem.F.called_bool.made (by decide) prog w A.in1 _ s₁ ⟨rfl, rfl, hq⟩⟩
end
section
variable {X : Cx} {CX : CXT} {pins : List (Addr × Obj)} {σ : L2.St} {H : Hp} {s : Shared} {a C dx g : Addr} {fs : List (Str × V)} {fd : FuncData} {ps : List Str} {n : Nat} {sp : Sp} {E : XK}
theorem run_fn2 {Q : VK} {us : List Value} {vs : List V} (F : FnOk X.prog X.w X.K X.mg X.base CX n g fd ps sp) (hr : Room (n + 2) X.A) (hb : Binds X.K fd ps []) (hx : Passes CX X E) (I : Inv X pins σ H s) (r : Vals vs us) (h : sp vs H Q E) :
    wpAny (model X.prog X.w) X.A.in1.in1 (call (.ref g) us) (EP X pins σ Q) X.xe s := by
  have hl : (us ++ []).length = ps.length := by rw [List.append_nil, ← r.length]; exact F.len _ _ _ _ h
  have hb' := hb s us I.kIn hl
  rw [List.append_nil] at hb'
  refine wpAny_call (codeAny_mono (F.run X.A.in1.in1 X.stack s H ⟨us, []⟩ us vs Q E (show Room (n + 1) X.A.in1 from Room.in1 hr).in1 I.env0.in1.in1 hb' r h) fun r s' hq => ?_)
  cases r with
  | error e => exact hx pins σ H s e s' I hq
  | ok fl =>
    cases fl with
    | ret u => exact I.after hq
    | next => exact False.elim hq
    | brk => exact False.elim hq
    | cont => exact False.elim hq
/-- the truth of an instance -/
def rTruOwn (C : Addr) (sp : Sp) (E : XK) : V → Hp → (Bool → Hp → Prop) → Prop := fun x H Q => ∃ a dx fs, x = .ref a ∧ H a = some (.ins C dx fs) ∧ sp [x] H (fun z H' => ∃ b, z = .bl b ∧ Q b H') E
theorem tru_own (hs : PySem.W.findIn X.K (.ref C) "__bool__" = some (some (.ref g))) (hf : PySem.W.isFn X.K (.ref g) = true) (F : FnOk X.prog X.w X.K X.mg X.base CX n g fd ps sp)
    (hr : Room n X.A) (hb : Binds X.K fd ps []) (hx : Passes CX X E) : TruR X (rTruOwn C sp E) := by
  intro pins s σ H x v Q I rx h
  obtain ⟨a, dx, fs, rfl, ha, q⟩ := h
  cases (show v = Value.ref a from rx)
  obtain ⟨od, J⟩ := ins_inst I ha
  refine truthy_own I.kIn J hs hf (wpAny_mono (run_fn (us := [.ref a]) (vs := [.ref a]) F hr hb .nil hx I (.cons rfl .nil) (by exact q)) (fun w s' z => ?_) fun _ _ x => x)
  obtain ⟨z', H', I', rz, b, rfl, qz⟩ := z
  cases (show w = Value.bool b from rz)
  exact ⟨b, rfl, H', I', qz⟩
def rBoolOwn (C : Addr) (sp : Sp) (E : XK) : List V → Hp → VK → Prop := fun xs H Q => ∃ a dx fs, xs = [.ref a] ∧ H a = some (.ins C dx fs) ∧ sp [.ref a] H (fun z H' => ∃ b, z = .bl b ∧ Q (.bl b) H') E
theorem call_boolOwn (hs : PySem.W.findIn X.K (.ref C) "__bool__" = some (some (.ref g))) (hf : PySem.W.isFn X.K (.ref g) = true) (F : FnOk X.prog X.w X.K X.mg X.base CX n g fd ps sp)
    (hr : Room (n + 2) X.A) (hb : Binds X.K fd ps []) (hx : Passes CX X E) : CallR X (.type "bool") (rBoolOwn C sp E) := by
  intro pins s σ H xs us Q I r h
  obtain ⟨a, dx, fs, rfl, ha, q⟩ := h
  obtain rfl := Vals.ref1 r
  obtain ⟨od, J⟩ := ins_inst I ha
  refine bool_of (truthy_own I.kIn J hs hf (wpAny_mono (run_fn2 (us := [.ref a]) (vs := [.ref a]) F hr hb hx I (.cons rfl .nil) (by exact q)) (fun w s' z => ?_) fun _ _ x => x))
  obtain ⟨z', H', I', rz, b, rfl, qz⟩ := z
  cases (show w = Value.bool b from rz)
  exact ⟨b, rfl, .bl b, H', I', rfl, qz⟩
/-- o[i] by an own __getitem__ -/
def rIxOwn (C : Addr) (sp : Sp) (E : XK) : R2 := fun x y H Q => ∃ a dx fs, x = .ref a ∧ H a = some (.ins C dx fs) ∧ sp [x, y] H Q E
def PlainIxO (b : Expr) : Prop := ∀ o i, subscripted b true o i = runValue (.builtin "lifetime.subscript" ⟨[o, i], []⟩)
theorem pe_ixOwn {a b : Expr} {ta tb : TE} {pos : Pos} (hs : PySem.W.findIn X.K (.ref C) "__getitem__" = some (some (.ref g))) (hf : PySem.W.fnIn X.K g = true) (hfn : PySem.W.isFn X.K (.ref g) = true) (F : FnOk X.prog X.w X.K X.mg X.base CX n g fd ps sp)
    (hr : Room (n + 1) X.A) (hb : Binds X.K fd ps []) (hx : Passes CX X E) (ha : PE X a ta) (hi : PE X b tb) (hsl : PlainIxO b) : PE X (.Subscript a b pos) (tOp (rIxOwn C sp E) ta tb) := by
  refine ⟨fun pins s σ H Q I h => ?_⟩
  refine Subscript_ (binT ha hi I h fun v u s2 x y H2 I2 rx ry q => ?_)
  obtain ⟨p, dx, fs, rfl, hp, q⟩ := q
  cases (show v = Value.ref p from rx)
  obtain ⟨od, J⟩ := ins_inst I2 hp
  obtain ⟨m, hF⟩ := I2.fr
  exact PySem.W.sub_K hF I2.ok.mod.kin J hs hf hfn (run_fn1 (us := [.ref p, u]) (vs := [.ref p, y]) F hr hb hx I2 (.cons rfl (.cons ry .nil)) q) (hsl _ _)
theorem not_ni {z : V} {v : Value} {P : Value → Shared → Prop} {s' : Shared} (r : RelV z v) (h : P v s') : PySem.W.CmpBack P v s' := SlX.cmpback r h
/-- x op y, both instances of the class at C -/
def rBinOwn (C : Addr) (sp : Sp) (E : XK) : R2 := fun x y H Q => ∃ a dx fs b dy gs, x = .ref a ∧ y = .ref b ∧ H a = some (.ins C dx fs) ∧ H b = some (.ins C dy gs) ∧ sp [x, y] H Q E
theorem op_binOwn {op : Operator} (hc : PySem.W.selfFirst X.K C = true) (hs : PySem.W.findIn X.K (.ref C) (PySem.dunder op.info.2) = some (some (.ref g))) (hf : PySem.W.isFn X.K (.ref g) = true) (F : FnOk X.prog X.w X.K X.mg X.base CX n g fd ps sp)
    (hr : Room n X.A) (hb : Binds X.K fd ps []) (hx : Passes CX X E) : OpR X (binaryOp op) (rBinOwn C sp E) := by
  intro pins s σ H x y v u Q I rx ry h
  obtain ⟨a, dx, fs, b, dy, gs, rfl, rfl, ha, hb', q⟩ := h
  cases (show v = Value.ref a from rx)
  cases (show u = Value.ref b from ry)
  obtain ⟨od, J⟩ := ins_inst I ha
  obtain ⟨od', J'⟩ := ins_inst I hb'
  obtain ⟨m, hF⟩ := I.fr
  refine PySem.W.binop_K (op := op) hF I.ok.mod.kin J J'.type hc hs hf ?_
  refine wpAny_mono (run_fn (us := [.ref a, .ref b]) (vs := [.ref a, .ref b]) F hr hb .nil hx I (.cons rfl (.cons rfl .nil)) (by exact q)) (fun w s' z => ?_) fun _ _ x => x
  obtain ⟨z', H', I', rz, qz⟩ := z
  exact not_ni rz ⟨z', H', I', rz, qz⟩
end
end SR
set_option maxRecDepth 100000
set_option maxHeartbeats 4000000
namespace SR
open PySem PySem.Spec PyProof.Rows L2

/-! ### either of two rules -/
section
variable {X : Cx}
theorem OpR.or {f : Value → Value → Sem Value} {r r' : R2} (h : OpR X f r) (h' : OpR X f r') : OpR X f (fun x y H Q => r x y H Q ∨ r' x y H Q) := by
  intro pins s σ H x y v u Q I rx ry q
  rcases q with q | q
  · exact h pins s σ H x y v u Q I rx ry q
  · exact h' pins s σ H x y v u Q I rx ry q
theorem TruR.or {r r' : V → Hp → (Bool → Hp → Prop) → Prop} (h : TruR X r) (h' : TruR X r') : TruR X (fun x H Q => r x H Q ∨ r' x H Q) := by
  intro pins s σ H x v Q I rx q
  rcases q with q | q
  · exact h pins s σ H x v Q I rx q
  · exact h' pins s σ H x v Q I rx q
theorem pi_or {tg iter : Expr} {w1 w2 : TI} (h1 : PI X tg iter w1) (h2 : PI X tg iter w2) : PI X tg iter (fun σ H R => w1 σ H R ∨ w2 σ H R) := by
  refine ⟨fun pins s σ H R I h => ?_⟩
  rcases h with h | h
  · exact h1.run pins s σ H R I h
  · exact h2.run pins s σ H R I h
theorem pg_or {tg : Expr} {g1 g2 : TG} (h1 : PG X tg g1) (h2 : PG X tg g2) : PG X tg (fun v σ H Q => g1 v σ H Q ∨ g2 v σ H Q) := by
  refine ⟨fun pins s σ H v u Q I r h => ?_⟩
  rcases h with h | h
  · exact h1.run pins s σ H v u Q I r h
  · exact h2.run pins s σ H v u Q I r h
theorem pe_or2 {e : Expr} {t1 t2 : TE} (h1 : PE X e t1) (h2 : PE X e t2) : PE X e (fun σ H Q => t1 σ H Q ∨ t2 σ H Q) := by
  refine ⟨fun pins s σ H Q I h => ?_⟩
  rcases h with h | h
  · exact h1.run pins s σ H Q I h
  · exact h2.run pins s σ H Q I h
end

/-! ### tuple(a list), the tuple told as its object; dict(such a tuple of pairs) -/
section
variable {X : Cx}
theorem call_tupleF : CallR X (.type "tuple") (fun xs H Q => ∃ p ys, xs = [.ref p] ∧ SqL X.K H p ys ∧ ∀ l o, H l = none → o.dict = none → Q (.ref l) (upd H l (.frz o (.tup ys)))) := by
  intro pins s σ H xs us Q I r h
  obtain ⟨p, ys, rfl, hq, q⟩ := h
  obtain ⟨u, rfl, rx⟩ := vals1 r
  cases rx
  obtain ⟨its, r', pl, hz⟩ := I.list hq
  have hlen := r'.length
  refine call_tuple_list pl.isList (fun h' kp => ?_) (by simp only [List.size_toArray] <;> omega)
  have I1 : Inv X pins σ H { s with heap := h' } := I.kept (t' := s.toks) kp
  have I2 : Inv X pins σ (upd H h'.objs.size (.frz { cls := .type "tuple", data := .seq its.toArray } (.tup ys))) { s with heap := h'.push { cls := .type "tuple", data := .seq its.toArray } } :=
    I1.laid (t' := s.toks) (fun b o e => Heap.get?_push_of_some _ e) (Nat.le_refl _) (show ObjOk X.prog X.w _ _ _ (.frz _ (.tup ys)) from ⟨Heap.get?_push_size _ rfl, hz, its, r', IsTup.new _ _⟩)
  exact ⟨.ref h'.objs.size, _, I2, rfl, q _ _ (I1.hok.fresh (Nat.le_refl _)) rfl⟩
theorem pairs_two {pins : List (Addr × Obj)} {σ : L2.St} {H : Hp} {s : Shared} (I : Inv X pins σ H s) : ∀ {ps : List Addr} {kvs : List (Key × V)}, Paired (fun p kv => SqT X.K H p [kV kv.1, kv.2]) ps kvs →
    ∃ (prs : List (Key × Value)) (us : List (Value × Value)), KV kvs prs ∧ prs.length = ps.length ∧ us.length = ps.length ∧ ∀ (j : Nat) (k v : Value), us[j]? = some (k, v) → ∃ (b : Addr) (kk : Key), ps[j]? = some b ∧ prs[j]? = some (kk, v) ∧ IsTup s.heap b #[k, v] ∧ keyIs kk k = true
  | _, _, .nil => ⟨[], [], .nil, rfl, rfl, fun j k v e => by simp at e⟩
  | _, _, .cons (a := p) (b := kv) h t => by
    obtain ⟨prs, us, r, hl, hl2, hp⟩ := pairs_two I t
    obtain ⟨its, rv, ht, _⟩ := I.tuple h
    obtain ⟨u, y, ei, ru, ry⟩ := vals2 rv
    subst ei
    refine ⟨(kv.1, y) :: prs, (u, y) :: us, .cons ⟨rfl, ry⟩ r, by rw [List.length_cons, List.length_cons, hl], by rw [List.length_cons, List.length_cons, hl2], fun j k v e => ?_⟩
    cases j with
    | zero =>
      have e' : (u, y) = (k, v) := Option.some.inj e
      injection e' with e1 e2
      subst e1 e2
      refine ⟨p, kv.1, rfl, rfl, ht, ?_⟩
      cases hk : kv.1 with
      | inl i =>
        rw [hk] at ru
        obtain ⟨t, e⟩ := (show ∃ t, u = Value.int i t from ru)
        rw [e]
        exact keyIs_int i t
      | inr z =>
        rw [hk] at ru
        obtain ⟨t, e⟩ := (show ∃ t, u = Value.str z t from ru)
        rw [e]
        exact keyIs_str z t
    | succ j =>
      obtain ⟨b, kk, e1, e2, e3, e4⟩ := hp j k v (by simpa using e)
      exact ⟨b, kk, by simpa using e1, by simpa using e2, e3, e4⟩
theorem call_dictT (hcalm : X.calm = true) : CallR X (.type "dict") (fun xs H Q => ∃ (a : Addr) (o : Obj) (ps : List Addr) (kvs : List (Key × V)), xs = [.ref a] ∧ o.dict = none ∧ H a = some (.frz o (.tup (ps.map V.ref))) ∧ Paired (fun p kv => SqT X.K H p [kV kv.1, kv.2]) ps kvs ∧
    ∀ p, H p = none → Q (.ref p) (upd H p (.dK (mergeK [] kvs)))) := by
  intro pins s σ H xs us Q I r q
  obtain ⟨a, o, ps, kvs, ex, hod, hq, hp, q⟩ := q
  subst ex
  obtain ⟨u, eu, rx⟩ := vals1 r
  subst eu
  cases rx
  obtain ⟨ho, hz, its, rv, o', ho', hc, n, hdat⟩ := (show ObjOk X.prog X.w H s.heap a (.frz o (.tup (ps.map V.ref))) from I.hok a _ hq)
  obtain rfl : o = o' := Option.some.inj (ho.symm.trans ho')
  have ei := refs_at rv
  subst ei
  rw [List.length_map] at hz
  obtain ⟨prs, us, rel, hl, hl2, hpr⟩ := pairs_two I hp
  have hkl : prs.length = kvs.length := rel.length.symm
  refine PySem.call_dict_pairs (knd := mixKind X.prog X.w) (kvs := prs) (PairArg.tuple a (ps.map Value.ref).toArray (fun j => ps.getD j 0) us) (I.ok.hd hcalm) ⟨⟨o, n, ho, hc, hod, hdat⟩, ?_⟩ ⟨?_, ?_⟩ (by rw [hl2]; exact hz) fun h' tk hd' k => ?_
  · refine ⟨by simp [hl2], fun j k v e => ?_⟩
    obtain ⟨b, kk, e1, e2, e3, e4⟩ := hpr j k v e
    have e5 : ps.getD j 0 = b := by simp [List.getD, e1]
    show (List.map Value.ref ps).toArray[j]? = some (Value.ref (ps.getD j 0)) ∧ PairAt s.heap (ps.getD j 0) k v
    rw [e5]
    exact ⟨by simp [e1], Or.inl e3⟩
  · rw [hl, hl2]
  · intro i key v e
    obtain ⟨b, kk, e1, e2, e3, e4⟩ := hpr i key v e
    exact ⟨kk, e2, e4⟩
  · have hm : (s.heap.objs.size == sysModules) = false := beq_eq_false_iff_ne.mpr (Nat.ne_of_gt I.big)
    have hlen : (mergeK [] kvs).length ≤ sizeLine := by
      refine Nat.le_trans (length_mergeK kvs []) ?_
      rw [List.length_nil, Nat.zero_add, rel.length, hl]
      exact hz
    exact ⟨.ref s.heap.objs.size, upd H s.heap.objs.size (.dK (mergeK [] kvs)), I.laid (t' := tk) (fun b ob e => k b ob (fun z => nomatch z) e) (Nat.le_refl _) (show ObjOk X.prog X.w _ _ _ (.dK (mergeK [] kvs)) from ⟨hlen, hm, merged [] prs, KV.merge rel .nil, hd'⟩), rfl, q _ (I.hok.fresh (Nat.le_refl _))⟩
end

/-! ### enumerate(a tuple) -/
theorem meets_enumerate_new1 {v : Value} {o : Obj} {Hh : Heap → Prop} (B : Begins v o Hh) :
    Meets (Builtin.«enumerate.__new__» ⟨[.type "enumerate", v], []⟩) (fun _ R s => Hh s.heap ∧
      R (.ok (.ret (.ref (s.heap.push o).objs.size))) { s with heap := (s.heap.push o).push { cls := .type "enumerate", data := .fields #[.none, .bool false, .ref s.heap.objs.size, rawInt 0, .none, .none] } }) :=
  .of_wp fun prog w A R s h => by
    obtain ⟨hp, g, d, tk, os⟩ := s; obtain ⟨h1, h⟩ := h
    have hsub := sub_enumerate
    have q1 : ∀ {A' : Around} {E : Value → Shared → Prop} {Q : Value → Shared → Prop}, Q (.ref hp.objs.size) ⟨hp.push o, g, d, tk, os⟩ → wpAny (model prog w) A' (pyIter v) Q E ⟨hp, g, d, tk, os⟩ :=
      fun q => B.iter prog w _ _ ⟨hp, g, d, tk, os⟩ _ h1 q
    wp_walk using q1
    refine wpAny_stack_any fun st => wpAny_pure ?_
    split
    · rename_i c _ _ _ _ _
      cases (c == Value.type "enumerate")
      · wp_walk using q1
        exact ⟨_, rfl, h⟩
      · wp_walk using q1
        exact ⟨_, rfl, h⟩
    · wp_walk using q1
      exact ⟨_, rfl, h⟩
section
variable {prog : Program} {w : World} {A : Around} {E : Value → Shared → Prop} {s : Shared}
theorem enum_begins1 {v : Value} {o : Obj} {Hh : Heap → Prop} {Q : Value → Shared → Prop} (B : Begins v o Hh) (h1 : Hh s.heap)
    (h : ∀ h', IsEnum h' (s.heap.objs.size + 1) s.heap.objs.size 0 .none → h'.get? s.heap.objs.size = some o → h'.objs.size = s.heap.objs.size + 2 →
      (∀ b o, s.heap.get? b = some o → h'.get? b = some o) → Q (.ref (s.heap.objs.size + 1)) { s with heap := h' }) :
    wpAny (model prog w) A (call (.type "enumerate") [v]) Q E s := by
  refine callType_new F.called_enumerate (by decide) (F.typeCall_enumerate_1 _) (F.newCall_enumerate_1 _) (fun obj => F.args_object_init_2 obj _) F.entry_enumerate_new
    (meets_enumerate_new1 B) ⟨h1, ?_⟩
  have hz : (s.heap.push o).objs.size = s.heap.objs.size + 1 := Heap.size_push ..
  show _ ∧ _
  rw [hz]
  have he : IsEnum ((s.heap.push o).push { cls := .type "enumerate", data := .fields #[.none, .bool false, .ref s.heap.objs.size, rawInt 0, .none, .none] }) (s.heap.objs.size + 1) s.heap.objs.size 0 .none := by
    have := Heap.get?_push_size (s.heap.push o) (o := { cls := .type "enumerate", data := .fields #[.none, .bool false, .ref s.heap.objs.size, rawInt 0, .none, .none] }) rfl
    rw [hz] at this; exact this
  refine ⟨⟨_, he, rfl⟩, h _ he (Heap.get?_push_of_some _ (Heap.get?_push_size _ B.free)) (by rw [Heap.size_push, hz]) fun b o x => Heap.get?_push_of_some _ (Heap.get?_push_of_some _ x)⟩
end
/-- the tuple at a, each item in a new pair -/
def IteT (K : PySem.W.Frag) (a : Addr) (xs : List V) : It :=
  ⟨fun i H => SqT K H a xs ∧ i < xs.length, fun i H v H' => ∃ T x, v = .ref T ∧ H T = none ∧ H' = upd H T (.tup [.int (i : Nat), x]) ∧ xs[i]? = some x, fun i H => SqT K H a xs ∧ xs.length ≤ i⟩
theorem turn_enumT {P : Program} {w : World} {K : PySem.W.Frag} {elts : List Expr} {kk : Nat} {tpos : Pos} (a e it : Addr) (xs : List V) :
    Turn P w K (.Tuple elts kk tpos) (IteT K a xs) [e, it] e (fun i h => (∃ old, IsEnum h e it ((i : Nat) : Int) old) ∧ h.IsTupleIter it a i ∧ e ≠ it ∧ i ≤ xs.length) where
  mem := by simp
  obj := fun i h st b hb => by
    obtain ⟨⟨old, he⟩, ⟨o, ho, hc, hd⟩, _⟩ := st
    have e' : b = e ∨ b = it := by simpa using hb
    rcases e' with z | z
    · rw [z]; exact ⟨_, he, fun v q => nomatch q⟩
    · rw [z]; exact ⟨o, ho, fun v q => by rw [hd] at q; cases q⟩
  keep := fun i h h' st k => let ⟨⟨old, he⟩, hi, hne⟩ := st; ⟨⟨old, k e (by simp) _ he⟩, hi.at fun o q => k it (by simp) o q, hne⟩
  item := by
    intro X hP hw hK hc i pins s σ H E I hf st hg
    subst hP hw hK
    obtain ⟨⟨old, he⟩, hit, hne, hile⟩ := st
    obtain ⟨hq, hlt⟩ := hg
    obtain ⟨its, rv, p, hz⟩ := I.tuple hq
    have hT : s.heap.IsTuple a its.toArray := p
    have hlen := rv.length
    have hel : e < s.heap.objs.size := Heap.lt_size he
    have hil : it < s.heap.objs.size := by obtain ⟨_, q, _⟩ := hit; exact Heap.lt_size q
    have hai : a ≠ it := by
      intro z
      subst z
      obtain ⟨o1, q1, c1, _⟩ := hit
      obtain ⟨o2, q2, c2, _⟩ := hT
      rw [q1] at q2
      cases q2
      rw [c1] at c2
      exact absurd c2 (by decide)
    have hea : e ≠ a := by
      intro z
      subst z
      obtain ⟨o2, q2, c2, _⟩ := hT
      rw [he] at q2
      have q3 := Option.some.inj q2
      subst q3
      exact absurd c2 (show ¬ (Value.type "enumerate" = Value.type "tuple") by decide)
    have D := Draws.tuple (prog := X.prog) (w := X.w) (A := X.A.in1) (by show X.A.handled = none; exact I.ok.hd hc) it a hai its.toArray
    refine wpAny_pyNext_enum_itemD D he ⟨hit, hT⟩ (by simp; omega) hne (by simp [hne, hea]) fun u h' tk hu ho hst' hTT hsz hk => ?_
    obtain ⟨x, hx⟩ : ∃ x, xs[i]? = some x := ⟨xs[i], List.getElem?_eq_getElem hlt⟩
    obtain ⟨u', hu', ru⟩ := rv.get hx
    have eu : u = u' := by
      have z : its.toArray[i]? = some u := hu
      rw [List.getElem?_toArray, hu'] at z
      exact (Option.some.inj z).symm
    subst eu
    refine ⟨_, rfl, wpAny_letOwnedTupleGo_enum (s := { s with heap := h', toks := tk + 1 }) ho fun h'' he' sb => ?_⟩
    have hT2 : h''.get? s.heap.objs.size = some { cls := .type "tuple", data := .seq #[.int i tk, u] } := (sb.2 _ (Nat.ne_of_gt hel)).trans hTT
    have new : ObjOk X.prog X.w (upd H s.heap.objs.size (.tup [.int (i : Nat), x])) h'' s.heap.objs.size (.tup [.int (i : Nat), x]) :=
      ⟨by show 2 ≤ sizeLine; decide, [.int i tk, u], .cons ⟨_, rfl⟩ (.cons ru .nil), ⟨_, hT2, rfl, _, rfl⟩⟩
    have I1 : Inv X pins σ (upd H s.heap.objs.size (.tup [.int (i : Nat), x])) { s with heap := h'', toks := tk + 1 } :=
      I.turnedNew (ch := [e, it]) (fun b ob hb q => (sb.2 b (fun z => hb (by simp [z]))).trans (hk b ob (fun z => hb (by simp [z])) (fun z => hb (by simp [z])) q)) hf (Nat.le_refl _) new
    refine ⟨.ref s.heap.objs.size, _, I1, rfl, ⟨_, x, rfl, I.hok.fresh (Nat.le_refl _), rfl, hx⟩, ⟨⟨u, ?_⟩, hst'.1.at fun o q => (sb.2 it (Ne.symm hne)).trans q, hne, hlt⟩, fun b hb => ?_⟩
    · have e1 : ((i + 1 : Nat) : Int) = (i : Int) + 1 := by omega
      rw [e1]; exact he'
    · have hb' : b < s.heap.objs.size := by
        have e' : b = e ∨ b = it := by simpa using hb
        rcases e' with z | z
        · rw [z]; exact hel
        · rw [z]; exact hil
      rw [upd_ne (Nat.ne_of_lt hb')]
      exact (hf b hb).1
  done := by
    intro X hP hw hK hc i pins s σ H E I hf st hg
    subst hP hw hK
    obtain ⟨⟨old, he⟩, hit, hne, hile⟩ := st
    obtain ⟨hq, hx⟩ := hg
    obtain ⟨its, rv, p, hz⟩ := I.tuple hq
    have hT : s.heap.IsTuple a its.toArray := p
    obtain ⟨f0, f1, f2, f3, f4, f5⟩ := hf it (by simp)
    have hl := rv.length
    have hai : a ≠ it := by
      intro z
      subst z
      obtain ⟨o1, q1, c1, _⟩ := hit
      obtain ⟨o2, q2, c2, _⟩ := hT
      rw [q1] at q2
      cases q2
      rw [c1] at c2
      exact absurd c2 (by decide)
    have D := Draws.tuple (prog := X.prog) (w := X.w) (A := X.A.in1) (by show X.A.handled = none; exact I.ok.hd hc) it a hai its.toArray
    have ei : i = its.toArray.size := by simp; omega
    subst ei
    exact wpAny_pyNext_enum_endD D he ⟨hit, hT⟩ fun h' eb => ⟨rfl, I.turned (t' := s.toks) (fun b o hb q => eb b o hb q) f0 f1 f3 f4 f5⟩
  self := fun A i s Q E st h => let ⟨⟨_, he⟩, _⟩ := st; wpAny_pyIter_enum he h
def iEnumT (K : PySem.W.Frag) (ta : TA) : TI := fun σ H R => ta σ H fun vs H1 => ∃ a xs, vs = [.ref a] ∧ SqT K H1 a xs ∧ R (IteT K a xs) H1
theorem pi_enumT {X : Cx} {e : Expr} {ta : TA} {p pos tpos : Pos} {elts : List Expr} {kk : Nat} (hg : Gl X "enumerate") (hm : X.mg "enumerate" = none) (ha : PA X [e] ta) (hs : starEach [e] X.env = [(false, eval e X.env)] := by rfl) :
    PI X (.Tuple elts kk tpos) (.Call (.Name "enumerate" p) [e] [] pos) (iEnumT X.K ta) := by
  refine ⟨fun pins s σ H R I h => ?_⟩
  refine Call_ (ld_blt I hg hm boot_enumerate (PyProof.Rows.callWith_type1 (thn (ha.run pos pins s σ H _ I h) fun us s1 ⟨vs, H1, I1, r1, q1⟩ => ?_) hs rfl))
  obtain ⟨a, xs, ex, hq, q⟩ := q1
  subst ex
  cases r1 with
  | cons r rr =>
    cases rr
    cases r
    obtain ⟨its, rv, p', hz⟩ := I1.tuple hq
    refine enum_begins1 (begins_tuple a its.toArray) p' fun h' he hit hsz hk => wpAny_pyIter_enum he ?_
    have I2 : Inv X pins σ H1 { s1 with heap := h' } := I1.kept (t' := s1.toks) hk
    refine ⟨s1.heap.objs.size + 1, [s1.heap.objs.size + 1, s1.heap.objs.size], _, _, H1, rfl, I2, turn_enumT a (s1.heap.objs.size + 1) s1.heap.objs.size xs, ⟨⟨.none, he⟩, ⟨_, hit, rfl, rfl⟩, Nat.succ_ne_self _, Nat.zero_le _⟩, fun b hb => ?_, q⟩
    have e' : b = s1.heap.objs.size + 1 ∨ b = s1.heap.objs.size := by simpa using hb
    have hle : s1.heap.objs.size ≤ b := by
      rcases e' with z | z
      · rw [z]; exact Nat.le_add_right _ _
      · rw [z]; exact Nat.le_refl _
    exact I1.fpOk hle (I1.hok.fresh hle)

/-! ### cls(e, ..), a local name that holds the class -/
section
variable {X : Cx} {CX : CXT} {k : Nat} {f C : Addr} {fd : FuncData} {ps : List Str} {sp : Sp} {dvs : List V} {ds : List Value} {E : XK} {x : Str} {p pos : Pos} {e : Expr} {es : List Expr} {t : TA} {i : Nat}
def tMakeL (i : Nat) (C : Addr) (sp : Sp) (dvs : List V) (E : XK) (t : TA) : TE := fun σ H Q => σ[i]? = some (some (.ref C)) ∧ tMake C sp dvs E t σ H Q
theorem pe_makeL (M : Mk X.K C f) (F : FnOk X.prog X.w X.K X.mg X.base CX k f fd ps sp) (hr : Room (k + 1) X.A) (hN : X.N[i]? = some x) (hv : Vis X.env.scope x) (hb : Binds X.K fd ps ds) (hd : Vals dvs ds) (hx : Passes CX X E)
    (ha : PA X (e :: es) t) (hdb : (x == ("__debug__" : Str)) = false := by decide) (hcd : (x == ("__classdict__" : Str)) = false := by decide) (he : starEach (e :: es) X.env = (false, eval e X.env) :: starEach es X.env := by rfl) (hpl : (backTo pos (starEach es X.env)).any (·.1) = false := by rfl) :
    PE X (.Call (.Name x p) (e :: es) [] pos) (tMakeL i C sp dvs E t) := by
  refine ⟨fun pins s σ H Q I h => ?_⟩
  obtain ⟨hs, ht⟩ := h
  refine wpAny_Call_Name_kw (thn ((pe_var (pos := p) hN hv hdb hcd).run pins s σ H (fun v H1 => v = .ref C ∧ H1 = H) I ⟨.ref C, hs, rfl, rfl⟩) fun u s1 ⟨v, H1, I1, r1, q1⟩ => ?_)
  obtain ⟨rfl, rfl⟩ := q1
  cases r1
  refine PySem.W.callWith_K (h₀ := X.base) I.ok.mod.kin M.kp (thn (ha.run pos pins s1 σ _ _ I1 ht) fun us s2 ⟨vs, H2, I2, r, q⟩ => ⟨I2.kIn, ?_⟩) he hpl
  exact run_make M F hr hb hd hx I2 r q
end
end SR
set_option maxRecDepth 100000
set_option maxHeartbeats 4000000
/-! What a value stands for: data of any depth, objects told by what they hold. -/
namespace SR
open PySem PySem.Spec PyProof.Rows L2 Evl

/-- a dict of ints, its pairs in order -/
def kvI (m : List (Int × Int)) : List (Key × V) := m.map fun q => (Sum.inl q.1, V.int q.2)
inductive D (ω : Type) where
  | non | bl (b : Bool) | int (i : Int) | str (x : Str) | lst (l : List (D ω)) | tup (l : List (D ω)) | dic (m : List (Int × Int)) | obj (w : ω)

/-- what an object of the program's own holds -/
structure OI (ω : Type) where
  at_ : Hp → Addr → ω → Prop
  mono : ∀ {H H' a w}, Ex H H' → at_ H a w → at_ H' a w

section
variable {ω : Type} (K : PySem.W.Frag) (O : OI ω) (H : Hp)
mutual
def At : D ω → V → Prop
  | .non, v => v = .non
  | .bl b, v => v = .bl b
  | .int i, v => v = .int i
  | .str x, v => v = .str x
  | .lst l, v => ∃ a vs, v = .ref a ∧ H a = some (.lst vs) ∧ AtL l vs
  | .tup l, v => ∃ a vs, v = .ref a ∧ SqT K H a vs ∧ AtL l vs
  | .dic m, v => ∃ a, v = .ref a ∧ H a = some (.dK (kvI m))
  | .obj w, v => ∃ a, v = .ref a ∧ O.at_ H a w
def AtL : List (D ω) → List V → Prop
  | [], vs => vs = []
  | d :: l, vs => ∃ v r, vs = v :: r ∧ At d v ∧ AtL l r
end
end
section
variable {ω : Type} {K : PySem.W.Frag} {O : OI ω} {H H' : Hp}
mutual
theorem At.mono (e : Ex H H') : ∀ {d : D ω} {v : V}, At K O H d v → At K O H' d v
  | .non, v, h => by simp only [At] at h ⊢; exact h
  | .bl b, v, h => by simp only [At] at h ⊢; exact h
  | .int i, v, h => by simp only [At] at h ⊢; exact h
  | .str x, v, h => by simp only [At] at h ⊢; exact h
  | .lst l, v, h => by
    simp only [At] at h ⊢
    obtain ⟨a, vs, e1, e2, e3⟩ := h
    exact ⟨a, vs, e1, e _ _ e2, AtL.mono e e3⟩
  | .tup l, v, h => by
    simp only [At] at h ⊢
    obtain ⟨a, vs, e1, e2, e3⟩ := h
    exact ⟨a, vs, e1, ex_t e e2, AtL.mono e e3⟩
  | .dic m, v, h => by
    simp only [At] at h ⊢
    obtain ⟨a, e1, e2⟩ := h
    exact ⟨a, e1, e _ _ e2⟩
  | .obj w, v, h => by
    simp only [At] at h ⊢
    obtain ⟨a, e1, e2⟩ := h
    exact ⟨a, e1, O.mono e e2⟩
theorem AtL.mono (e : Ex H H') : ∀ {l : List (D ω)} {vs : List V}, AtL K O H l vs → AtL K O H' l vs
  | [], vs, h => by simp only [AtL] at h ⊢; exact h
  | d :: l, vs, h => by
    simp only [AtL] at h ⊢
    obtain ⟨v, r, e1, e2, e3⟩ := h
    exact ⟨v, r, e1, At.mono e e2, AtL.mono e e3⟩
end
@[simp] theorem at_non {v : V} : At K O H .non v ↔ v = .non := by simp only [At]
@[simp] theorem at_bl {b : Bool} {v : V} : At K O H (.bl b) v ↔ v = .bl b := by simp only [At]
@[simp] theorem at_int {i : Int} {v : V} : At K O H (.int i) v ↔ v = .int i := by simp only [At]
@[simp] theorem at_str {x : Str} {v : V} : At K O H (.str x) v ↔ v = .str x := by simp only [At]
theorem at_lst {l : List (D ω)} {v : V} : At K O H (.lst l) v ↔ ∃ a vs, v = .ref a ∧ H a = some (.lst vs) ∧ AtL K O H l vs := by simp only [At]
theorem at_tup {l : List (D ω)} {v : V} : At K O H (.tup l) v ↔ ∃ a vs, v = .ref a ∧ SqT K H a vs ∧ AtL K O H l vs := by simp only [At]
theorem at_dic {m : List (Int × Int)} {v : V} : At K O H (.dic m) v ↔ ∃ a, v = .ref a ∧ H a = some (.dK (kvI m)) := by simp only [At]
theorem at_obj {w : ω} {v : V} : At K O H (.obj w) v ↔ ∃ a, v = .ref a ∧ O.at_ H a w := by simp only [At]
theorem atL_nil {vs : List V} : AtL K O H [] vs ↔ vs = [] := by simp only [AtL]
theorem atL_cons {d : D ω} {l : List (D ω)} {vs : List V} : AtL K O H (d :: l) vs ↔ ∃ v r, vs = v :: r ∧ At K O H d v ∧ AtL K O H l r := by simp only [AtL]
theorem AtL.len : ∀ {l : List (D ω)} {vs : List V}, AtL K O H l vs → vs.length = l.length
  | [], vs, h => by rw [atL_nil] at h; subst h; rfl
  | d :: l, vs, h => by
    obtain ⟨v, r, rfl, _, h3⟩ := atL_cons.mp h
    rw [List.length_cons, List.length_cons, AtL.len h3]
theorem AtL.get : ∀ {l : List (D ω)} {vs : List V} {i : Nat} {v : V}, AtL K O H l vs → vs[i]? = some v → ∃ d, l[i]? = some d ∧ At K O H d v
  | [], vs, i, v, h, e => by rw [atL_nil] at h; subst h; simp at e
  | d :: l, vs, i, v, h, e => by
    obtain ⟨w, r, rfl, h2, h3⟩ := atL_cons.mp h
    cases i with
    | zero =>
      have e' : w = v := Option.some.inj e
      subst e'
      exact ⟨d, rfl, h2⟩
    | succ i => exact AtL.get (i := i) h3 (by simpa using e)
theorem AtL.get' {l : List (D ω)} {vs : List V} {i : Nat} {d : D ω} (h : AtL K O H l vs) (e : l[i]? = some d) : ∃ v, vs[i]? = some v ∧ At K O H d v := by
  have hl := h.len
  have hi : i < l.length := (List.getElem?_eq_some_iff.mp e).1
  have e2 : vs[i]? = some vs[i] := List.getElem?_eq_getElem (by omega)
  obtain ⟨d', e3, e4⟩ := h.get e2
  rw [e] at e3
  cases e3
  exact ⟨_, e2, e4⟩
theorem AtL.app : ∀ {l m : List (D ω)} {vs ws : List V}, AtL K O H l vs → AtL K O H m ws → AtL K O H (l ++ m) (vs ++ ws)
  | [], m, vs, ws, h, g => by rw [atL_nil] at h; subst h; exact g
  | d :: l, m, vs, ws, h, g => by
    obtain ⟨w, r, rfl, h2, h3⟩ := atL_cons.mp h
    exact atL_cons.mpr ⟨w, r ++ ws, rfl, h2, AtL.app h3 g⟩
theorem AtL.one {d : D ω} {v : V} (h : At K O H d v) : AtL K O H [d] [v] := atL_cons.mpr ⟨v, [], rfl, h, atL_nil.mpr rfl⟩
theorem AtL.ints : ∀ {ns : List Int}, AtL K O H (ns.map D.int) (ns.map V.int)
  | [] => atL_nil.mpr rfl
  | n :: r => atL_cons.mpr ⟨_, _, rfl, at_int.mpr rfl, AtL.ints⟩
theorem AtL.ints' : ∀ {ns : List Int} {vs : List V}, AtL K O H (ns.map D.int) vs → vs = ns.map V.int
  | [], vs, h => atL_nil.mp h
  | n :: r, vs, h => by
    obtain ⟨v, w, rfl, h2, h3⟩ := atL_cons.mp h
    rw [at_int.mp h2, AtL.ints' h3]
    rfl
/-- the type that isinstance sees -/
theorem tyL {a : Addr} {vs : List V} (h : SqL K H a vs) : TyX K H (.ref a) (.type "list") := by
  rcases h with (h | ⟨o, h⟩) | ⟨o, its, n, h1, h2, _⟩
  · exact .base (.lst h)
  · exact .base (.frz h)
  · exact .kList h1 h2
theorem tyT {a : Addr} {vs : List V} (h : SqT K H a vs) : TyX K H (.ref a) (.type "tuple") := by
  rcases h with (h | ⟨o, h⟩) | ⟨o, its, n, h1, h2, _⟩
  · exact .base (.tup h)
  · exact .fTuple h
  · exact .kTuple h1 h2
/-- .. of data; T: of objects -/
def tyD (T : ω → Value) : D ω → Value
  | .non => .type "NoneType" | .bl _ => .type "bool" | .int _ => .type "int" | .str _ => .type "str" | .lst _ => .type "list" | .tup _ => .type "tuple" | .dic _ => .type "dict" | .obj w => T w
theorem ty_of {T : ω → Value} (hT : ∀ H a w, O.at_ H a w → TyX K H (.ref a) (T w)) {d : D ω} {v : V} (h : At K O H d v) : TyX K H v (tyD T d) := by
  cases d with
  | non => rw [at_non] at h; subst h; exact .base .non
  | bl b => rw [at_bl] at h; subst h; exact .base (.bl b)
  | int i => rw [at_int] at h; subst h; exact .base (.int i)
  | str x => rw [at_str] at h; subst h; exact .base (.str x)
  | lst l => obtain ⟨a, vs, rfl, h2, _⟩ := at_lst.mp h; exact tyL (sq_of h2)
  | tup l => obtain ⟨a, vs, rfl, h2, _⟩ := at_tup.mp h; exact tyT h2
  | dic m => obtain ⟨a, rfl, h2⟩ := at_dic.mp h; exact .base (.dK h2)
  | obj w => obtain ⟨a, rfl, h2⟩ := at_obj.mp h; exact hT _ _ _ h2
end
end SR
set_option maxRecDepth 100000
set_option maxHeartbeats 4000000
/-! Defs, methods, classes by what they promise, without their addresses. -/
namespace SR
open PySem PySem.Spec PyProof.Rows L2 Evl

/-- the built-in names that the module leaves as they are -/
structure Bi (mg : Str → Option Value) : Prop where
  len : mg "len" = none
  isinstance : mg "isinstance" = none
  int : mg "int" = none
  bool : mg "bool" = none
  list : mg "list" = none
  tuple : mg "tuple" = none
  dict : mg "dict" = none
  sorted : mg "sorted" = none
  enumerate : mg "enumerate" = none
  zip : mg "zip" = none
  range : mg "range" = none
  all : mg "all" = none
  any : mg "any" = none
  reversed : mg "reversed" = none
  sum : mg "sum" = none
  min : mg "min" = none
  max : mg "max" = none
  abs : mg "abs" = none

section
variable (P : Program) (w : World) (K : PySem.W.Frag) (mg : Str → Option Value) (base : Heap)
structure DefOk (k : Nat) (x : Str) (ps : List Str) (sp : Sp) : Prop where
  ex : ∃ f fd, mg x = some (.ref f) ∧ PySem.W.keepIn K (.ref f) = true ∧ Binds K fd ps [] ∧ FnOk P w K mg base CX0 k f fd ps sp
/-- .. its last parameters filled by the defaults ds -/
structure DefOkD (k : Nat) (x : Str) (ps : List Str) (dvs : List V) (sp : Sp) : Prop where
  ex : ∃ f fd ds, mg x = some (.ref f) ∧ PySem.W.keepIn K (.ref f) = true ∧ Binds K fd ps ds ∧ Vals dvs ds ∧ FnOk P w K mg base CX0 k f fd ps sp
structure MethOk (C : Addr) (k : Nat) (m : Str) (ps : List Str) (sp : Sp) : Prop where
  ex : ∃ f fd, Meth K C m f ∧ Binds K fd ps [] ∧ FnOk P w K mg base CX0 k f fd ps sp
structure MakeOk (C : Addr) (k : Nat) (x : Str) (ps : List Str) (dvs : List V) (sp : Sp) : Prop where
  ex : ∃ f fd ds, Mk K C f ∧ mg x = some (.ref C) ∧ Binds K fd ps ds ∧ Vals dvs ds ∧ FnOk P w K mg base CX0 k f fd ps sp
end
section
variable {P : Program} {w : World} {K : PySem.W.Frag} {mg : Str → Option Value} {base : Heap}
theorem defOk {x qual : Str} {st : Stmt} {f : Addr} {fd : FuncData} {ps : List Str} {k : Nat} {sp : Sp} (F : Fun K x qual st f fd) (hm : mg x = some (.ref f)) (G : FnOk P w K mg base CX0 k f fd ps sp) (b : Binds K fd ps []) : DefOk P w K mg base k x ps sp := ⟨f, fd, hm, F.kp, b, G⟩
end
section
variable {X : Cx} {k : Nat} {C : Addr} {ps : List Str} {sp : Sp} {dvs : List V} {x m : Str} {p pos apos : Pos} {e o : Expr} {es : List Expr} {ta : TE} {t : TA}
theorem pe_callD (h : DefOk X.prog X.w X.K X.mg X.base k x ps sp) (hr : Room k X.A) (ha : PA X (e :: es) t) (hg : Gl X x := by rfl) (hdb : (x == ("__debug__" : Str)) = false := by decide)
    (he : starEach (e :: es) X.env = (false, eval e X.env) :: starEach es X.env := by rfl) (hpl : (backTo pos (starEach es X.env)).any (·.1) = false := by rfl) : PE X (.Call (.Name x p) (e :: es) [] pos) (tCall sp [] E0 t) := by
  obtain ⟨f, fd, hm, hk, hb, F⟩ := h.ex
  exact pe_call F hr hg hm hk hb .nil pass0 ha hdb he hpl
theorem pe_callD0 (h : DefOk X.prog X.w X.K X.mg X.base k x ps sp) (hr : Room k X.A) (hg : Gl X x := by rfl) (hdb : (x == ("__debug__" : Str)) = false := by decide) : PE X (.Call (.Name x p) [] [] pos) (tCall sp [] E0 tNil) := by
  obtain ⟨f, fd, hm, hk, hb, F⟩ := h.ex
  exact pe_call0 F hr hg hm hk hb .nil pass0 hdb
theorem pe_methD {pl : Sem Bool} (c : Cls X.K C) (h : MethOk X.prog X.w X.K X.mg X.base C k m ps sp) (hr : Room k X.A) (he : PE X o ta) (ha : PA X (e :: es) t)
    (hst : starEach (e :: es) X.env = (false, eval e X.env) :: starEach es X.env := by rfl) (hpl : (backTo pos (starEach es X.env)).any (·.1) = false := by rfl)
    (ht : eval (.Call (.Attribute o m apos) (e :: es) [] pos) X.env = (do
      let ov ← eval o X.env
      standAt apos.atName
      let (f, first) ← holding [ov] (getMethod ov m pl)
      callWith pos f first (backTo pos (starEach (e :: es) X.env)) (backToKw pos (keywordEach [] X.env))) := by rfl) :
    PE X (.Call (.Attribute o m apos) (e :: es) [] pos) (tMeth C m sp [] E0 ta t) := by
  obtain ⟨f, fd, hm, hb, F⟩ := h.ex
  exact pe_meth he c hm F hr hb .nil pass0 ha hst hpl ht
theorem pe_methD0 {pl : Sem Bool} (c : Cls X.K C) (h : MethOk X.prog X.w X.K X.mg X.base C k m ps sp) (hr : Room k X.A) (he : PE X o ta)
    (ht : eval (.Call (.Attribute o m apos) [] [] pos) X.env = (do
      let ov ← eval o X.env
      standAt apos.atName
      let (f, first) ← holding [ov] (getMethod ov m pl)
      callWith pos f first (backTo pos (starEach [] X.env)) (backToKw pos (keywordEach [] X.env))) := by rfl) :
    PE X (.Call (.Attribute o m apos) [] [] pos) (tMeth C m sp [] E0 ta tNil) := by
  obtain ⟨f, fd, hm, hb, F⟩ := h.ex
  exact pe_meth0 he c hm F hr hb .nil pass0 ht
theorem pe_makeD (h : MakeOk X.prog X.w X.K X.mg X.base C k x ps dvs sp) (hr : Room (k + 1) X.A) (ha : PA X (e :: es) t) (hg : Gl X x := by rfl) (hdb : (x == ("__debug__" : Str)) = false := by decide)
    (he : starEach (e :: es) X.env = (false, eval e X.env) :: starEach es X.env := by rfl) (hpl : (backTo pos (starEach es X.env)).any (·.1) = false := by rfl) : PE X (.Call (.Name x p) (e :: es) [] pos) (tMake C sp dvs E0 t) := by
  obtain ⟨f, fd, ds, M, hm, hb, hd, F⟩ := h.ex
  exact pe_make M F hr hg hm hb hd pass0 ha hdb he hpl
theorem pe_makeDL {i : Nat} (h : MakeOk X.prog X.w X.K X.mg X.base C k x ps dvs sp) {y : Str} (hr : Room (k + 1) X.A) (ha : PA X (e :: es) t) (hN : X.N[i]? = some y := by rfl) (hv : Vis X.env.scope y := by first | exact Or.inl rfl | exact Or.inr (Or.inl rfl)) (hdb : (y == ("__debug__" : Str)) = false := by decide) (hcd : (y == ("__classdict__" : Str)) = false := by decide)
    (he : starEach (e :: es) X.env = (false, eval e X.env) :: starEach es X.env := by rfl) (hpl : (backTo pos (starEach es X.env)).any (·.1) = false := by rfl) : PE X (.Call (.Name y p) (e :: es) [] pos) (tMakeL i C sp dvs E0 t) := by
  obtain ⟨f, fd, ds, M, hm, hb, hd, F⟩ := h.ex
  exact pe_makeL M F hr hN hv hb hd pass0 ha hdb hcd he hpl
end
end SR
set_option maxRecDepth 100000
set_option maxHeartbeats 4000000
/-! Readings over a known part G of the heap H: what is in G stays; what a def is still filling stands in H alone. -/
namespace SR
open PySem PySem.Spec PyProof.Rows L2 Evl

/-- from (G, H) to (G', H') -/
structure Le (G H G' H' : Hp) : Prop where
  h : Ex H H'
  g : Ex G G'
  e : Ex G' H'
  f : ∀ a, G a = none → H a ≠ none → G' a = none
  t : ∀ a ps, G' a = some (.tbl ps) → G a = some (.tbl ps)
/-- no table of code objects -/
def NoTb (o : HO) : Prop := ∀ ps, o ≠ .tbl ps
section
variable {G H G1 H1 G2 H2 : Hp}
theorem Le.refl (e : Ex G H) : Le G H G H := ⟨Ex.refl _, Ex.refl _, e, fun _ h _ => h, fun _ _ h => h⟩
theorem Le.trans (a : Le G H G1 H1) (b : Le G1 H1 G2 H2) : Le G H G2 H2 where
  h := a.h.trans b.h
  g := a.g.trans b.g
  e := b.e
  f := fun x hg hh => b.f x (a.f x hg hh) fun z => by
    cases q : H x with
    | none => exact hh q
    | some o => rw [a.h x o q] at z; cases z
  t := fun x ps h => a.t x ps (b.t x ps h)
/-- the heap alone grows -/
theorem Le.heap (e : Ex G H) (x : Ex H H1) : Le G H G H1 := ⟨x, Ex.refl _, e.trans x, fun _ h _ => h, fun _ _ h => h⟩
theorem none_of_ex (e : Ex G H) {p : Addr} (h : H p = none) : G p = none := by
  cases q : G p with
  | none => rfl
  | some o => rw [e p o q] at h; cases h
/-- a new object, known -/
theorem Le.new (e : Ex G H) {p : Addr} {o : HO} (h : H p = none) (ht : NoTb o := by intro _ z; cases z) : Le G H (upd G p o) (upd H p o) where
  h := Ex.new h
  g := Ex.new (none_of_ex e h)
  e := fun a u q => by
    by_cases z : a = p
    · subst z; rw [upd_same] at q ⊢; exact q
    · rw [upd_ne z] at q ⊢; exact e a u q
  f := fun a hg hh => by
    by_cases z : a = p
    · subst z; exact absurd h hh
    · rw [upd_ne z]; exact hg
  t := fun a ps q => by
    by_cases z : a = p
    · subst z; rw [upd_same] at q; exact absurd (Option.some.inj q) (ht ps)
    · rw [upd_ne z] at q; exact q
/-- what was filled since (G, H) is known from now on -/
theorem Le.fix (e : Ex G H) (l : Le G H G1 H1) {p : Addr} {o : HO} (h : H p = none) (h1 : H1 p = some o) (ht : NoTb o := by intro _ z; cases z) : Le G H (upd G1 p o) H1 where
  h := l.h
  g := fun a u q => by
    by_cases z : a = p
    · subst z; rw [none_of_ex e h] at q; cases q
    · rw [upd_ne z]; exact l.g a u q
  e := fun a u q => by
    by_cases z : a = p
    · subst z; rw [upd_same] at q; rw [h1]; exact q
    · rw [upd_ne z] at q; exact l.e a u q
  f := fun a hg hh => by
    by_cases z : a = p
    · subst z; exact absurd h hh
    · rw [upd_ne z]; exact l.f a hg hh
  t := fun a ps q => by
    by_cases z : a = p
    · subst z; rw [upd_same] at q; exact absurd (Option.some.inj q) (ht ps)
    · rw [upd_ne z] at q; exact l.t a ps q
/-- what (G, H) does not know changes -/
theorem Le.mut (l : Le G H G1 H1) {p : Addr} {o : HO} (h : H p = none) (hg : G1 p = none) : Le G H G1 (upd H1 p o) where
  h := fun a u q => by
    rw [upd_ne (ne_of_none q h)]; exact l.h a u q
  g := l.g
  e := fun a u q => by
    rw [upd_ne (ne_of_none q hg)]; exact l.e a u q
  f := l.f
  t := l.t
/-- a fresh one, not known -/
theorem Le.newM (e : Ex G H) {p : Addr} {o : HO} (h : H p = none) : Le G H G (upd H p o) := (Le.refl e).mut h (none_of_ex e h)
/-- fresh behind is fresh ahead -/
theorem Le.back (l : Le G H G1 H1) {p : Addr} (h : H1 p = none) : H p = none := fresh_back l.h h
theorem Le.gnone (l : Le G H G1 H1) {p : Addr} (hg : G p = none) (hh : H p ≠ none) : G1 p = none := l.f p hg hh
/-- both parts -/
def hun (A B : Hp) : Hp := fun a => match A a with
  | some o => some o
  | none => B a
theorem hun_l {A B : Hp} : Ex A (hun A B) := fun a o h => by unfold hun; rw [h]
theorem hun_r {A B C : Hp} (h1 : Ex A C) (h2 : Ex B C) : Ex B (hun A B) := fun a o h => by
  unfold hun
  cases q : A a with
  | none => exact h
  | some u =>
    have e1 := h1 a u q
    have e2 := h2 a o h
    rw [e1] at e2
    exact e2
theorem hun_t {A B C : Hp} (h1 : ∀ a ps, A a = some (.tbl ps) → C a = some (.tbl ps)) (h2 : ∀ a ps, B a = some (.tbl ps) → C a = some (.tbl ps)) (a : Addr) (ps : Array Value) (h : hun A B a = some (.tbl ps)) : C a = some (.tbl ps) := by
  unfold hun at h
  cases q : A a with
  | none => rw [q] at h; exact h2 a ps h
  | some u => rw [q] at h; exact h1 a ps (q.trans h)
theorem hun_ex {A B C : Hp} (h1 : Ex A C) (h2 : Ex B C) : Ex (hun A B) C := fun a o h => by
  unfold hun at h
  cases q : A a with
  | none => rw [q] at h; exact h2 a o h
  | some u => rw [q] at h; rw [← h]; exact h1 a u q
end

section
variable {ω : Type} (K : PySem.W.Frag) (O : OI ω)
/-- the data is handed back: known behind -/
def RetG (d : D ω) (G H : Hp) (Q : VK) : Prop := ∀ v G2 H2, Le G H G2 H2 → At K O G2 d v → Q v H2
def EvD (te : TE) (σ : L2.St) (G : Hp) (d : D ω) : Prop := ∀ H1, Ex G H1 → ∀ Q : VK, RetG K O d G H1 Q → te σ H1 Q
def EvDA (ta : TA) (σ : L2.St) (G : Hp) (ds : List (D ω)) : Prop := ∀ H1, Ex G H1 → ∀ Q : List V → Hp → Prop, (∀ vs G2 H2, Le G H1 G2 H2 → AtL K O G2 ds vs → Q vs H2) → ta σ H1 Q
end
section
variable {ω : Type} {K : PySem.W.Frag} {O : OI ω} {G G' H : Hp} {te ta tb : TE} {σ : L2.St} {d : D ω} {v : V}
theorem RetG.mono {Q : VK} {G1 H1 : Hp} (l : Le G H G1 H1) (k : RetG K O d G H Q) : RetG K O d G1 H1 Q := fun v G2 H2 l2 a => k v G2 H2 (l.trans l2) a
theorem EvD.mono (e : Ex G G') (h : EvD K O te σ G d) : EvD K O te σ G' d := fun H1 e1 Q k => h H1 (e.trans e1) Q fun v G2 H2 l a =>
  k v (hun G2 G') H2 ⟨l.h, hun_r l.e (e1.trans l.h), hun_ex l.e (e1.trans l.h), (fun x hg hh => by
    unfold hun
    have g0 : G x = none := none_of_ex e hg
    rw [l.f x g0 hh]
    exact hg), hun_t (fun a ps q => e a _ (l.t a ps q)) fun _ _ q => q⟩ (a.mono hun_l)
theorem ed_var {i : Nat} (h : σ[i]? = some (some v)) (a : At K O G d v) : EvD K O (tVar i) σ G d := fun H1 e Q k => ⟨v, h, k v G H1 (Le.refl e) a⟩
theorem ed_of (h : Ev te σ G v) (a : At K O G d v) : EvD K O te σ G d := fun H1 e Q k => h H1 e Q fun H2 e2 => k v G H2 (Le.heap e e2) a
theorem eda_nil : EvDA K O tNil σ G [] := fun H1 e Q k => k [] G H1 (Le.refl e) (atL_nil.mpr rfl)
theorem eda_cons {tr : TA} {ds : List (D ω)} (h : EvD K O te σ G d) (hr : EvDA K O tr σ G ds) : EvDA K O (tCons te tr) σ G (d :: ds) := fun H1 e Q k =>
  h H1 e _ fun v G2 H2 l a => hr H2 ((l.g).trans l.e) _ fun vs G3 H3 l3 as => by
    have e3 : Ex G2 (hun G3 G2) := hun_r l3.e (l.e.trans l3.h)
    refine k (v :: vs) (hun G3 G2) H3 ⟨l.h.trans l3.h, l.g.trans e3, hun_ex l3.e (l.e.trans l3.h), fun x hg hh => ?_, hun_t l3.t l.t⟩ (atL_cons.mpr ⟨v, vs, rfl, a.mono e3, as.mono hun_l⟩)
    have n2 := l.f x hg hh
    have h2 : H2 x ≠ none := fun z => hh (fresh_back l.h z)
    unfold hun
    rw [l3.f x hg h2]
    exact n2
/-- a display -/
theorem ed_lst {ta : TA} {ds : List (D ω)} (h : EvDA K O ta σ G ds) (hl : ds.length ≤ 100000) : EvD K O (tLst ta) σ G (.lst ds) := fun H1 e Q k =>
  h H1 e _ fun vs G2 H2 l as => ⟨sz_of (by rw [as.len]; exact hl), fun p hp => k (.ref p) (upd G2 p (.lst vs)) _ (l.trans (Le.new l.e hp)) (at_lst.mpr ⟨p, vs, rfl, upd_same, as.mono (Ex.new (none_of_ex l.e hp))⟩)⟩
theorem ed_tup {ta : TA} {ds : List (D ω)} (h : EvDA K O ta σ G ds) (hl : ds.length ≤ 100000) : EvD K O (tTup ta) σ G (.tup ds) := fun H1 e Q k =>
  h H1 e _ fun vs G2 H2 l as => ⟨sz_of (by rw [as.len]; exact hl), fun p hp => k (.ref p) (upd G2 p (.tup vs)) _ (l.trans (Le.new l.e hp)) (at_tup.mpr ⟨p, vs, rfl, st_of upd_same, as.mono (Ex.new (none_of_ex l.e hp))⟩)⟩
end
end SR
set_option maxRecDepth 100000
set_option maxHeartbeats 4000000
namespace SR
open PySem PySem.Spec PyProof.Rows L2 Evl
section
variable {ω : Type} {K : PySem.W.Frag} {O : OI ω} {G G' H : Hp} {te ta tb tl : TE} {σ : L2.St} {d : D ω} {v : V}

theorem ev_ofD (h : EvD K O te σ G d) (one : ∀ G v', At K O G d v' → v' = v) : Ev te σ G v := fun H1 e Q q => h H1 e Q fun v' G2 H2 l a => by rw [one G2 v' a]; exact q H2 l.h
theorem ev_bl {b : Bool} (h : EvD K O te σ G (.bl b)) : Ev te σ G (.bl b) := ev_ofD h fun G v a => at_bl.mp a
theorem ev_int {i : Int} (h : EvD K O te σ G (.int i)) : Ev te σ G (.int i) := ev_ofD h fun G v a => at_int.mp a
theorem ev_non (h : EvD K O te σ G .non) : Ev te σ G .non := ev_ofD h fun G v a => at_non.mp a
theorem et_ofD {b : Bool} (h : EvD K O te σ G (.bl b)) : EvT (tB te) σ G b := et_B (ev_bl h)

/-! ### a def over data -/
def SpD (K : PySem.W.Frag) (O : OI ω) (R : List (D ω) → D ω → Prop) : Sp := fun vs H Q _ => ∃ G ds d, Ex G H ∧ AtL K O G ds vs ∧ R ds d ∧ RetG K O d G H Q
theorem ed_call {R : List (D ω) → D ω → Prop} {E : XK} {t : TA} {ds : List (D ω)} (h : EvDA K O t σ G ds) (r : R ds d) : EvD K O (tCall (SpD K O R) [] E t) σ G d := fun H1 e Q k =>
  h H1 e _ fun vs G2 H2 l as => ⟨G2, ds, d, l.e, by rw [List.append_nil]; exact as, r, k.mono l⟩

/-! ### sources -/
def Src (K : PySem.W.Frag) (O : OI ω) (wi : TI) (σ : L2.St) (G : Hp) (ds : List (D ω)) : Prop := ∀ H1, Ex G H1 → ∀ R : It → Hp → Prop,
  (∀ (J : It) (Gd : Hp → Prop) (Y : Nat → Hp → V → Hp → Prop) (G2 H2 : Hp), Le G H1 G2 H2 → Walk J ds.length Gd Y → (∀ H, Ex G2 H → Gd H) →
    (∀ i Gi Hi x Hi', Ex G2 Gi → Ex Gi Hi → i < ds.length → Y i Hi x Hi' → ∃ d Gi', ds[i]? = some d ∧ Le Gi Hi Gi' Hi' ∧ At K O Gi' d x) → R J H2) → wi σ H1 R
theorem src_list {ds : List (D ω)} (h : EvD K O tl σ G (.lst ds)) : Src K O (iList K tl) σ G ds := fun H1 e R k =>
  h H1 e _ fun v G2 H2 l a => by
    obtain ⟨p, vs, rfl, hs, as⟩ := at_lst.mp a
    refine ⟨p, rfl, ⟨vs, sq_of (l.e _ _ hs)⟩, ?_⟩
    have hl : vs.length = ds.length := as.len
    refine k (Itl K p) _ _ G2 H2 l (by rw [← hl]; exact walk_list (xs := vs)) (fun H x => sq_of (x _ _ hs)) fun i Gi Hi x Hi' eg eh hi y => ?_
    obtain ⟨rfl, hx⟩ := y
    obtain ⟨d, hd, ad⟩ := as.get hx
    exact ⟨d, Gi, hd, Le.refl eh, ad.mono eg⟩
theorem src_tup {ds : List (D ω)} (h : EvD K O tl σ G (.tup ds)) : Src K O (iTup K tl) σ G ds := fun H1 e R k =>
  h H1 e _ fun v G2 H2 l a => by
    obtain ⟨p, vs, rfl, hs, as⟩ := at_tup.mp a
    refine ⟨p, rfl, ⟨vs, ex_t l.e hs⟩, ?_⟩
    have hl : vs.length = ds.length := as.len
    refine k (Itt K p) _ _ G2 H2 l (by rw [← hl]; exact walk_tup (xs := vs)) (fun H x => ex_t x hs) fun i Gi Hi x Hi' eg eh hi y => ?_
    obtain ⟨rfl, hx⟩ := y
    obtain ⟨d, hd, ad⟩ := as.get hx
    exact ⟨d, Gi, hd, Le.refl eh, ad.mono eg⟩
theorem src_or1 {w1 w2 : TI} {ds : List (D ω)} (h : Src K O w1 σ G ds) : Src K O (fun σ H R => w1 σ H R ∨ w2 σ H R) σ G ds := fun H1 e R k => Or.inl (h H1 e R k)
theorem src_or2 {w1 w2 : TI} {ds : List (D ω)} (h : Src K O w2 σ G ds) : Src K O (fun σ H R => w1 σ H R ∨ w2 σ H R) σ G ds := fun H1 e R k => Or.inr (h H1 e R k)
def idxD (ds : List (D ω)) : List (D ω) := ds.zipIdx.map fun p => .tup [.int (p.2 : Nat), p.1]
theorem idxD_len {ds : List (D ω)} : (idxD ds).length = ds.length := by simp [idxD]
theorem idxD_get {ds : List (D ω)} {i : Nat} {d : D ω} (h : ds[i]? = some d) : (idxD ds)[i]? = some (.tup [.int (i : Nat), d]) := by
  simp [idxD, List.getElem?_zipIdx, h]
theorem src_enum {ta : TA} {ds : List (D ω)} (h : EvDA K O ta σ G [.lst ds]) : Src K O (iEnum K ta) σ G (idxD ds) := fun H1 e R k =>
  h H1 e _ fun vs G2 H2 l as => by
    obtain ⟨v, r, rfl, a, n⟩ := atL_cons.mp as
    obtain rfl := atL_nil.mp n
    obtain ⟨p, ws, rfl, hs, aw⟩ := at_lst.mp a
    refine ⟨p, ws, rfl, sq_of (l.e _ _ hs), ?_⟩
    have hl : ws.length = ds.length := aw.len
    refine k (Ite K p) _ _ G2 H2 l (by rw [idxD_len, ← hl]; exact walk_enum (xs := ws)) (fun H x => sq_of (x _ _ hs)) fun i Gi Hi x Hi' eg eh hi y => ?_
    obtain ⟨T, x1, x2, rfl, hT, rfl, h1, h2⟩ := y
    obtain ⟨d, hd, ad⟩ := aw.get h2
    have e1 : x1 = .int (i : Nat) := (Option.some.inj h1).symm
    subst e1
    refine ⟨_, upd Gi T (.tup [.int (i : Nat), x2]), idxD_get hd, Le.new eh hT, at_tup.mpr ⟨T, _, rfl, st_of upd_same, atL_cons.mpr ⟨_, _, rfl, at_int.mpr rfl, ?_⟩⟩⟩
    exact AtL.one ((ad.mono eg).mono (Ex.new (none_of_ex eh hT)))
theorem walk_enumT {a : Addr} {xs : List V} : Walk (IteT K a xs) xs.length (fun H => SqT K H a xs) (YPair (fun i => some (.int (i : Nat))) (fun i => xs[i]?)) := by
  refine ⟨fun i _ hi q => ⟨q, hi⟩, fun _ q => ⟨q, Nat.le_refl _⟩, fun i H v H' _ q y => ?_⟩
  obtain ⟨T, x, h1, h2, h3, h4⟩ := y
  exact ⟨T, .int (i : Nat), x, h1, h2, h3, rfl, h4⟩
theorem src_enumT {ta : TA} {ds : List (D ω)} (h : EvDA K O ta σ G [.tup ds]) : Src K O (iEnumT K ta) σ G (idxD ds) := fun H1 e R k =>
  h H1 e _ fun vs G2 H2 l as => by
    obtain ⟨v, r, rfl, a, n⟩ := atL_cons.mp as
    obtain rfl := atL_nil.mp n
    obtain ⟨p, ws, rfl, hs, aw⟩ := at_tup.mp a
    refine ⟨p, ws, rfl, ex_t l.e hs, ?_⟩
    have hl : ws.length = ds.length := aw.len
    refine k (IteT K p ws) _ _ G2 H2 l (by rw [idxD_len, ← hl]; exact walk_enumT (xs := ws)) (fun H x => ex_t x hs) fun i Gi Hi x Hi' eg eh hi y => ?_
    obtain ⟨T, x1, x2, rfl, hT, rfl, h1, h2⟩ := y
    obtain ⟨d, hd, ad⟩ := aw.get h2
    have e1 : x1 = .int (i : Nat) := (Option.some.inj h1).symm
    subst e1
    refine ⟨_, upd Gi T (.tup [.int (i : Nat), x2]), idxD_get hd, Le.new eh hT, at_tup.mpr ⟨T, _, rfl, st_of upd_same, atL_cons.mpr ⟨_, _, rfl, at_int.mpr rfl, ?_⟩⟩⟩
    exact AtL.one ((ad.mono eg).mono (Ex.new (none_of_ex eh hT)))
def zipD (ds es : List (D ω)) : List (D ω) := (ds.zip es).map fun p => .tup [p.1, p.2]
/-- zip of two lists -/
theorem src_zipL {ta : TA} {ds es : List (D ω)} (h : EvDA K O ta σ G [.lst ds, .lst es]) : Src K O (RZ.iZipA K ta) σ G (zipD ds es) := fun H1 e R k =>
  h H1 e _ fun vs G2 H2 l as => by
    obtain ⟨v, r, rfl, a, n⟩ := atL_cons.mp as
    obtain ⟨v', r', rfl, a', n'⟩ := atL_cons.mp n
    obtain rfl := atL_nil.mp n'
    obtain ⟨p, ws, rfl, hs, aw⟩ := at_lst.mp a
    obtain ⟨q, us, rfl, hs', aw'⟩ := at_lst.mp a'
    refine ⟨p, q, ws, us, rfl, Or.inl ⟨sq_of (l.e _ _ hs), sq_of (l.e _ _ hs'), ?_⟩⟩
    have hl : ws.length = ds.length := aw.len
    have hl' : us.length = es.length := aw'.len
    have hn : (zipD ds es).length = min ws.length us.length := by simp [zipD, hl, hl']
    refine k (Itz K p q) _ _ G2 H2 l (walk_zip hn) (fun H x => ⟨sq_of (x _ _ hs), sq_of (x _ _ hs')⟩) fun i Gi Hi x Hi' eg eh hi y => ?_
    obtain ⟨T, x1, x2, rfl, hT, rfl, h1, h2⟩ := y
    obtain ⟨d, hd, ad⟩ := aw.get h1
    obtain ⟨d', hd', ad'⟩ := aw'.get h2
    have e3 : (zipD ds es)[i]? = some (.tup [d, d']) := by
      simp [zipD, List.zip, List.getElem?_zipWith, hd, hd']
    refine ⟨_, upd Gi T (.tup [x1, x2]), e3, Le.new eh hT, at_tup.mpr ⟨T, _, rfl, st_of upd_same, atL_cons.mpr ⟨_, _, rfl, (ad.mono eg).mono (Ex.new (none_of_ex eh hT)), ?_⟩⟩⟩
    exact AtL.one ((ad'.mono eg).mono (Ex.new (none_of_ex eh hT)))
def rngD (lo : Int) (n : Nat) : List (D ω) := (List.range n).map fun i => .int (lo + (i : Nat))
theorem rngD_get {lo : Int} {n i : Nat} (h : i < n) : (rngD (ω := ω) lo n)[i]? = some (.int (lo + (i : Nat))) := by simp [rngD, h]
theorem src_r1 {ta : TA} {n : Int} (h : EvA ta σ G [.int n]) (hn : -(2 ^ 62) ≤ n ∧ n < 2 ^ 62) : Src K O (iRng1 ta) σ G (rngD (ω := ω) 0 n.toNat) := fun H1 e R k =>
  h H1 e _ fun H2 e2 => ⟨n, rfl, hn.1, hn.2, k (Itr 0 n.toNat) _ _ G H2 (Le.heap e e2) (by rw [show (rngD (ω := ω) 0 n.toNat).length = n.toNat by simp [rngD]]; exact walk_range) (fun _ _ => True.intro) fun i Gi Hi x Hi' eg eh hi y => by
    obtain ⟨rfl, rfl⟩ := y
    exact ⟨_, Gi, rngD_get (by simpa [rngD] using hi), Le.refl eh, at_int.mpr rfl⟩⟩
theorem src_r2 {ta : TA} {lo n : Int} (h : EvA ta σ G [.int lo, .int n]) (hn : -(2 ^ 62) ≤ lo ∧ lo < 2 ^ 62 ∧ -(2 ^ 62) ≤ n ∧ n < 2 ^ 62) : Src K O (iRng2 ta) σ G (rngD (ω := ω) lo (n - lo).toNat) := fun H1 e R k =>
  h H1 e _ fun H2 e2 => ⟨lo, n, rfl, hn, k (Itr lo (n - lo).toNat) _ _ G H2 (Le.heap e e2) (by rw [show (rngD (ω := ω) lo (n - lo).toNat).length = (n - lo).toNat by simp [rngD]]; exact walk_range) (fun _ _ => True.intro) fun i Gi Hi x Hi' eg eh hi y => by
    obtain ⟨rfl, rfl⟩ := y
    exact ⟨_, Gi, rngD_get (by simpa [rngD] using hi), Le.refl eh, at_int.mpr rfl⟩⟩

/-! ### targets -/
theorem tg_pair {j k : Nat} {d1 d2 : D ω} {x : V} {Q : L2.St → Hp → Prop} (a : At K O G (.tup [d1, d2]) x) (e : Ex G H) (q : ∀ x1 x2, At K O G d1 x1 → At K O G d2 x2 → Q ((σ.set j (some x1)).set k (some x2)) H) :
    gTup K 2 (gCons (gName j) (gCons (gName k) gNil)) x σ H Q := by
  obtain ⟨p, vs, rfl, hs, as⟩ := at_tup.mp a
  obtain ⟨x1, r, rfl, a1, n⟩ := atL_cons.mp as
  obtain ⟨x2, r2, rfl, a2, n2⟩ := atL_cons.mp n
  obtain rfl := atL_nil.mp n2
  exact ⟨p, _, rfl, ex_t e hs, rfl, x1, _, rfl, x2, _, rfl, rfl, q x1 x2 a1 a2⟩
theorem tg_pairL {j k : Nat} {d1 d2 : D ω} {x : V} {Q : L2.St → Hp → Prop} (a : At K O G (.lst [d1, d2]) x) (e : Ex G H) (q : ∀ x1 x2, At K O G d1 x1 → At K O G d2 x2 → Q ((σ.set j (some x1)).set k (some x2)) H) :
    gUnl K 2 (gCons (gName j) (gCons (gName k) gNil)) x σ H Q := by
  obtain ⟨p, vs, rfl, hs, as⟩ := at_lst.mp a
  obtain ⟨x1, r, rfl, a1, n⟩ := atL_cons.mp as
  obtain ⟨x2, r2, rfl, a2, n2⟩ := atL_cons.mp n
  obtain rfl := atL_nil.mp n2
  exact ⟨p, _, rfl, sq_of (e _ _ hs), rfl, x1, _, rfl, x2, _, rfl, rfl, q x1 x2 a1 a2⟩

/-! ### a comprehension -/
theorem take_snoc {α : Type} {l : List α} {i : Nat} {x : α} (h : l[i]? = some x) : l.take (i + 1) = l.take i ++ [x] := by
  rw [List.take_add_one, h]
  rfl
theorem ed_lcW {wi : TI} {g : TG} {tt : TT} {vs : List Nat} {ds : List (D ω)} (f : D ω → Bool) (m : D ω → D ω) (hs : Src K O wi σ G ds) (hz : ds.length ≤ 400000)
    (body : ∀ (i : Nat) (d : D ω) (x : V) (Gi Hi : Hp), ds[i]? = some d → Ex G Gi → Ex Gi Hi → At K O Gi d x → ∀ Q : L2.St → Hp → Prop,
      (∀ σ2 H2, Ex Hi H2 → wipe σ2 vs = wipe σ vs → EvT tt σ2 Gi (f d) → (f d = true → EvD K O te σ2 Gi (m d)) → Q σ2 H2) → g x (wipe σ vs) Hi Q) :
    EvD K O (tLc wi g tt te vs) σ G (.lst ((ds.filter f).map m)) := fun H1 e Q k => by
  refine hs H1 e _ fun J Gd Y G0 H0 l0 w hG yl => ?_
  intro Dl hD
  refine lc_it w (fun i H => ∃ Gi us, Le G0 H0 Gi H ∧ H Dl = some (.lst us) ∧ Gi Dl = none ∧ AtL K O Gi (((ds.take i).filter f).map m) us)
    ⟨G0, [], Le.newM l0.e hD, upd_same, none_of_ex l0.e hD, by simp; exact atL_nil.mpr rfl⟩ (fun i H _ p => ?_) (fun i x Hi Hi' hi p y => ?_) fun H p => ?_
  · obtain ⟨Gi, us, l, _⟩ := p
    exact hG H (l.g.trans l.e)
  · obtain ⟨Gi, us, l, hu, gn, as⟩ := p
    obtain ⟨d, Gi', hd, l', ad⟩ := yl i Gi Hi x Hi' l.g l.e hi y
    have tk := take_snoc hd
    have gn' : Gi' Dl = none := l'.gnone gn (by rw [hu]; exact fun z => nomatch z)
    have hu' : Hi' Dl = some (.lst us) := l'.h Dl _ hu
    have lt : Le G0 H0 Gi' Hi' := l.trans l'
    refine body i d x Gi' Hi' hd (l0.g.trans lt.g) l'.e ad _ fun σ2 H2 e2 hw ht he => ⟨hw, ?_⟩
    refine ht H2 (l'.e.trans e2) _ fun H3 e3 => ?_
    have e23 := e2.trans e3
    have lt3 : Le G0 H0 Gi' H3 := lt.trans (Le.heap l'.e e23)
    cases hf : f d with
    | false =>
      rw [if_neg Bool.false_ne_true]
      refine ⟨Gi', us, lt3, e23 Dl _ hu', gn', ?_⟩
      rw [tk, List.filter_append, List.filter_cons, if_neg (by rw [hf]; decide), List.filter_nil, List.append_nil]
      exact as.mono l'.g
    | true =>
      rw [if_pos rfl]
      refine he hf H3 (l'.e.trans e23) _ fun u G4 H4 l4 a4 => ?_
      have hu4 : H4 Dl = some (.lst us) := l4.h Dl _ (e23 Dl _ hu')
      have gn4 : G4 Dl = none := l4.gnone gn' (by rw [e23 Dl _ hu']; exact fun z => nomatch z)
      have ul : us.length ≤ i := by
        have := as.len
        have h2 := List.length_filter_le f (ds.take i)
        simp at this h2
        omega
      refine ⟨us, hu4, Nat.lt_of_lt_of_le (show us.length < 1000000 by omega) (of_decide_eq_true (id (Eq.refl true))), G4, us ++ [u], (lt3.trans l4).mut hD gn4, upd_same, gn4, ?_⟩
      rw [tk, List.filter_append, List.filter_cons, if_pos hf, List.filter_nil, List.map_append]
      exact (as.mono (l'.g.trans l4.g)).app (AtL.one a4)
  · obtain ⟨Gi, us, l, hu, gn, as⟩ := p
    rw [List.take_length] at as
    exact k (.ref Dl) (upd Gi Dl (.lst us)) H (l0.trans (Le.fix l0.e l hD hu)) (at_lst.mpr ⟨Dl, us, rfl, upd_same, as.mono (Ex.new gn)⟩)
theorem ed_lc {wi : TI} {g : TG} {tt : TT} {vs : List Nat} {ds : List (D ω)} (f : D ω → Bool) (m : D ω → D ω) (hs : Src K O wi σ G ds) (hz : ds.length ≤ 40000)
    (body : ∀ (i : Nat) (d : D ω) (x : V) (Gi Hi : Hp), ds[i]? = some d → Ex G Gi → Ex Gi Hi → At K O Gi d x → ∀ Q : L2.St → Hp → Prop,
      (∀ σ2 H2, Ex Hi H2 → wipe σ2 vs = wipe σ vs → EvT tt σ2 Gi (f d) → (f d = true → EvD K O te σ2 Gi (m d)) → Q σ2 H2) → g x (wipe σ vs) Hi Q) :
    EvD K O (tLc wi g tt te vs) σ G (.lst ((ds.filter f).map m)) := ed_lcW f m hs (by omega) body
end

/-! ### statements -/
section
variable {ω : Type} {K : PySem.W.Frag} {O : OI ω} {G G' H : Hp} {te ta tb tl : TE} {σ : L2.St} {d : D ω} {v : V} {De : Ends} {tu tw tz : TS} {g : TG} {t : TT}
theorem s_forS {wi : TI} {ds : List (D ω)} (hs : Src K O wi σ G ds) (e : Ex G H) (Pv : Nat → L2.St → Hp → Hp → Prop) (h0 : ∀ G0 H0, Le G H G0 H0 → Pv 0 σ G0 H0)
    (turn : ∀ G0 i d x σ' Gi Hi Gi' Hi', Ex G G0 → ds[i]? = some d → Ex G0 Gi → Ex Gi Hi → Pv i σ' Gi Hi → Le Gi Hi Gi' Hi' → At K O Gi' d x → ∀ N : L2.St → Hp → Prop,
      (∀ σ2 G2 H2, Ex Gi' G2 → Ex G2 H2 → Pv (i + 1) σ2 G2 H2 → N σ2 H2) → g x σ' Hi' fun σ2 H2 => tu { De with nx := N, ct := N, bk := De.nx } σ2 H2)
    (hd : ∀ σ' G' H', Ex G G' → Ex G' H' → Pv ds.length σ' G' H' → De.nx σ' H') : tFor wi g tu De σ H := by
  refine hs H e _ fun J Gd Y G0 H0 l0 w hG yl => ?_
  refine for_it w (fun i σ' H' => ∃ G', Ex G0 G' ∧ Ex G' H' ∧ Pv i σ' G' H') ⟨G0, Ex.refl _, l0.e, h0 G0 H0 l0⟩ (fun i σ' H' _ p => ?_) (fun i x σ' Hi Hi' hi p y => ?_) fun σ' H' p => ?_
  · obtain ⟨G', e1, e2, _⟩ := p
    exact hG H' (e1.trans e2)
  · obtain ⟨Gi, e1, e2, pv⟩ := p
    obtain ⟨d, Gi', hd', l', ad⟩ := yl i Gi Hi x Hi' e1 e2 hi y
    exact turn G0 i d x σ' Gi Hi Gi' Hi' l0.g hd' e1 e2 pv l' ad _ fun σ2 G2 H2 e3 e4 p4 => ⟨G2, (e1.trans l'.g).trans e3, e4, p4⟩
  · obtain ⟨G', e1, e2, pv⟩ := p
    exact hd σ' G' H' (l0.g.trans e1) e2 pv
theorem q_forS {wi : TI} {ds : List (D ω)} (hs : Src K O wi σ G ds) (e : Ex G H) (Pv : Nat → L2.St → Hp → Hp → Prop) (h0 : ∀ G0 H0, Le G H G0 H0 → Pv 0 σ G0 H0)
    (turn : ∀ G0 i d x σ' Gi Hi Gi' Hi', Ex G G0 → ds[i]? = some d → Ex G0 Gi → Ex Gi Hi → Pv i σ' Gi Hi → Le Gi Hi Gi' Hi' → At K O Gi' d x → ∀ N : L2.St → Hp → Prop,
      (∀ σ2 G2 H2, Ex Gi' G2 → Ex G2 H2 → Pv (i + 1) σ2 G2 H2 → N σ2 H2) → g x σ' Hi' fun σ2 H2 => tu { De with nx := N, ct := N, bk := tz De } σ2 H2)
    (hd : ∀ σ' G' H', Ex G G' → Ex G' H' → Pv ds.length σ' G' H' → tz De σ' H') : tSeq (tFor wi g tu) tz De σ H := s_forS (De := { De with nx := tz De }) hs e Pv h0 turn hd
theorem s_asgD {i : Nat} (h : EvD K O te σ G d) (e : Ex G H) (k : ∀ v G2 H2, Le G H G2 H2 → At K O G2 d v → De.nx (σ.set i (some v)) H2) : tAsg te (gName i) De σ H := h H e _ k
theorem q_asgD {i : Nat} (h : EvD K O te σ G d) (e : Ex G H) (k : ∀ v G2 H2, Le G H G2 H2 → At K O G2 d v → tz De (σ.set i (some v)) H2) : tSeq (tAsg te (gName i)) tz De σ H := h H e _ k
/-- a value: nothing known is added -/
theorem q_asgV {i : Nat} (h : Ev te σ G v) (e : Ex G H) (k : ∀ H2, Le G H G H2 → tz De (σ.set i (some v)) H2) : tSeq (tAsg te (gName i)) tz De σ H := h H e _ fun H2 e2 => k H2 (Le.heap e e2)
theorem s_asgV {i : Nat} (h : Ev te σ G v) (e : Ex G H) (k : ∀ H2, Le G H G H2 → De.nx (σ.set i (some v)) H2) : tAsg te (gName i) De σ H := h H e _ fun H2 e2 => k H2 (Le.heap e e2)
theorem s_retD (h : EvD K O te σ G d) (e : Ex G H) (k : RetG K O d G H De.rt) : tRet te De σ H := h H e _ k
theorem s_ifG {b : Bool} (h : EvT t σ G b) (e : Ex G H) (h1 : b = true → ∀ H2, Le G H G H2 → tu De σ H2) (h2 : b = false → ∀ H2, Le G H G H2 → tw De σ H2) : tIfS t tu tw De σ H := h H e _ fun H2 e2 => by
  cases b with
  | true =>
    rw [if_pos rfl]
    exact h1 rfl H2 (Le.heap e e2)
  | false =>
    rw [if_neg Bool.false_ne_true]
    exact h2 rfl H2 (Le.heap e e2)
theorem q_ifG {b : Bool} (h : EvT t σ G b) (e : Ex G H) (h1 : b = true → ∀ H2, Le G H G H2 → tu { De with nx := tz De } σ H2) (h2 : b = false → ∀ H2, Le G H G H2 → tw { De with nx := tz De } σ H2) : tSeq (tIfS t tu tw) tz De σ H := s_ifG (De := { De with nx := tz De }) h e h1 h2
theorem q_whenG {b : Bool} (h : EvT t σ G b) (e : Ex G H) (h1 : b = true → ∀ H2, Le G H G H2 → tu { De with nx := tz De } σ H2) (h2 : b = false → ∀ H2, Le G H G H2 → tz De σ H2) : tSeq (tIfS t tu tNext) tz De σ H := q_ifG h e h1 h2
/-- an if that is not taken -/
theorem q_skip (h : EvT t σ G false) (e : Ex G H) (k : ∀ H2, Le G H G H2 → tz De σ H2) : tSeq (tIfS t tu tNext) tz De σ H := q_ifG h e (fun z => nomatch z) fun _ H2 l => k H2 l
/-- a truth told by pt_truth, pt_truthR -/
theorem et_tru {b : Bool} (h : Ev te σ G (.bl b)) : EvT (fun σ H Q => te σ H fun x H' => ∃ k, TruV K x H' k ∧ Q k H') σ G b := fun H1 e Q q => h H1 e _ fun H2 e2 => ⟨b, rfl, q H2 e2⟩
end
end SR
set_option maxRecDepth 100000
set_option maxHeartbeats 4000000
namespace SR
open PySem PySem.Spec PyProof.Rows L2 Evl
/-! ### isinstance, told for data -/
section
variable {ω : Type} {K : PySem.W.Frag} {O : OI ω} {T : ω → Value}
/-- what the classes of objects answer -/
structure OT (K : PySem.W.Frag) (O : OI ω) (T : ω → Value) : Prop where
  ty : ∀ H a w, O.at_ H a w → TyX K H (.ref a) (T w)
  int : ∀ w, PySem.W.kitOne K (T w) (.type "int") = some false
  bool : ∀ w, PySem.W.kitOne K (T w) (.type "bool") = some false
  list : ∀ w, PySem.W.kitOne K (T w) (.type "list") = some false
  tuple : ∀ w, PySem.W.kitOne K (T w) (.type "tuple") = some false
def dInt : D ω → Bool | .int _ => true | _ => false
def dBool : D ω → Bool | .bl _ => true | _ => false
def dIntB : D ω → Bool | .int _ => true | .bl _ => true | _ => false
def dLst : D ω → Bool | .lst _ => true | _ => false
def dTup : D ω → Bool | .tup _ => true | _ => false
def dSeq : D ω → Bool | .lst _ => true | .tup _ => true | _ => false
theorem kit_int (h : OT K O T) (d : D ω) : PySem.W.kitOne K (tyD T d) (.type "int") = some (dIntB d) := by
  cases d with
  | obj w => exact h.int w
  | _ => first | exact kit_ty (r := false) (by decide +kernel) | exact kit_ty (r := true) (by decide +kernel)
theorem kit_bool (h : OT K O T) (d : D ω) : PySem.W.kitOne K (tyD T d) (.type "bool") = some (dBool d) := by
  cases d with
  | obj w => exact h.bool w
  | _ => first | exact kit_ty (r := false) (by decide +kernel) | exact kit_ty (r := true) (by decide +kernel)
theorem kit_list (h : OT K O T) (d : D ω) : PySem.W.kitOne K (tyD T d) (.type "list") = some (dLst d) := by
  cases d with
  | obj w => exact h.list w
  | _ => first | exact kit_ty (r := false) (by decide +kernel) | exact kit_ty (r := true) (by decide +kernel)
theorem kit_tuple (h : OT K O T) (d : D ω) : PySem.W.kitOne K (tyD T d) (.type "tuple") = some (dTup d) := by
  cases d with
  | obj w => exact h.tuple w
  | _ => first | exact kit_ty (r := false) (by decide +kernel) | exact kit_ty (r := true) (by decide +kernel)
theorem kit_seq (h : OT K O T) (d : D ω) : PySem.W.kitAny K (tyD T d) [.type "list", .type "tuple"] = some (dSeq d) := by
  refine kitAny_cons (kit_list h d) (fun hb => kitAny_cons (kit_tuple h d) (fun hb2 => ?_) fun hb2 => ?_) (fun hb => ?_)
  · rw [kitAny_nil]
    cases d <;> simp_all [dLst, dTup, dSeq]
  · cases d <;> simp_all [dLst, dTup, dSeq]
  · cases d <;> simp_all [dLst, dTup, dSeq]
end


/-! ### tests on data, as values and as truths -/
section
variable {ω : Type} {K : PySem.W.Frag} {O : OI ω} {T : ω → Value} {G : Hp} {te : TE} {σ : L2.St} {d : D ω}
theorem isi_int (OK : OT K O T) (h : EvD K O te σ G d) : Ev (tCB (rIsi K) (tCons te (tCons (tC (.ty "int")) tNil))) σ G (.bl (dIntB d)) := fun H1 e Q q =>
  h H1 e _ fun v G2 H2 l a => ⟨v, .ty "int", _, _, _, rfl, .ty _, (ty_of OK.ty (a.mono l.e)), kit_int OK d, q H2 l.h⟩
theorem isi_bool (OK : OT K O T) (h : EvD K O te σ G d) : Ev (tCB (rIsi K) (tCons te (tCons (tC (.ty "bool")) tNil))) σ G (.bl (dBool d)) := fun H1 e Q q =>
  h H1 e _ fun v G2 H2 l a => ⟨v, .ty "bool", _, _, _, rfl, .ty _, (ty_of OK.ty (a.mono l.e)), kit_bool OK d, q H2 l.h⟩
theorem isi_list (OK : OT K O T) (h : EvD K O te σ G d) : Ev (tCB (rIsi K) (tCons te (tCons (tC (.ty "list")) tNil))) σ G (.bl (dLst d)) := fun H1 e Q q =>
  h H1 e _ fun v G2 H2 l a => ⟨v, .ty "list", _, _, _, rfl, .ty _, (ty_of OK.ty (a.mono l.e)), kit_list OK d, q H2 l.h⟩
theorem isi_tuple (OK : OT K O T) (h : EvD K O te σ G d) : Ev (tCB (rIsi K) (tCons te (tCons (tC (.ty "tuple")) tNil))) σ G (.bl (dTup d)) := fun H1 e Q q =>
  h H1 e _ fun v G2 H2 l a => ⟨v, .ty "tuple", _, _, _, rfl, .ty _, (ty_of OK.ty (a.mono l.e)), kit_tuple OK d, q H2 l.h⟩
theorem isi_seq (OK : OT K O T) (h : EvD K O te σ G d) : Ev (tCB (rIsiT K) (tCons te (tCons (tTup (tCons (tC (.ty "list")) (tCons (tC (.ty "tuple")) tNil))) tNil))) σ G (.bl (dSeq d)) := fun H1 e Q q =>
  h H1 e _ fun v G2 H2 l a => ⟨by show 2 ≤ sizeLine; decide, fun p hp => ⟨v, p, _, _, [.type "list", .type "tuple"], _, rfl, upd_same, .cons (.ty _) (.cons (.ty _) .nil), ty_of OK.ty ((a.mono l.e).mono (Ex.new hp)), kit_seq OK d, q _ (l.h.trans (Ex.new hp))⟩⟩
/-- one item of a list or tuple -/
def dItem : D ω → Nat → Option (D ω) | .lst l, i => l[i]? | .tup l, i => l[i]? | _, _ => none
def dLen : D ω → Nat | .lst l => l.length | .tup l => l.length | _ => 0
theorem ed_item {ti : TE} {i : Nat} {c : D ω} (h : EvD K O te σ G d) (hi : Ev ti σ G (.int (i : Nat))) (hc : dItem d i = some c) : EvD K O (tOp (fun x y H Q => rIxL K x y H Q ∨ rIxT K x y H Q) te ti) σ G c := fun H1 e Q k =>
  h H1 e _ fun v G2 H2 l a => hi H2 (e.trans l.h) _ fun H3 e3 => by
    cases d with
    | lst ds =>
      obtain ⟨p, vs, rfl, hs, as⟩ := at_lst.mp a
      obtain ⟨x, hx, ax⟩ := as.get' (i := i) hc
      exact Or.inl ⟨p, vs, _, x, rfl, rfl, sq_of ((l.e.trans e3) _ _ hs), atI_nat hx, k x G2 H3 (l.trans (Le.heap l.e e3)) ax⟩
    | tup ds =>
      obtain ⟨p, vs, rfl, hs, as⟩ := at_tup.mp a
      obtain ⟨x, hx, ax⟩ := as.get' (i := i) hc
      exact Or.inr ⟨p, vs, _, x, rfl, rfl, ex_t (l.e.trans e3) hs, atI_nat hx, k x G2 H3 (l.trans (Le.heap l.e e3)) ax⟩
    | _ => cases hc
theorem ed_itemL {ti : TE} {i : Nat} {c : D ω} {ds : List (D ω)} (h : EvD K O te σ G (.lst ds)) (hi : Ev ti σ G (.int (i : Nat))) (hc : ds[i]? = some c) : EvD K O (tOp (rIxL K) te ti) σ G c := fun H1 e Q k =>
  h H1 e _ fun v G2 H2 l a => hi H2 (e.trans l.h) _ fun H3 e3 => by
    obtain ⟨p, vs, rfl, hs, as⟩ := at_lst.mp a
    obtain ⟨x, hx, ax⟩ := as.get' (i := i) hc
    exact ⟨p, vs, _, x, rfl, rfl, sq_of ((l.e.trans e3) _ _ hs), atI_nat hx, k x G2 H3 (l.trans (Le.heap l.e e3)) ax⟩
theorem ed_itemT {ti : TE} {i : Nat} {c : D ω} {ds : List (D ω)} (h : EvD K O te σ G (.tup ds)) (hi : Ev ti σ G (.int (i : Nat))) (hc : ds[i]? = some c) : EvD K O (tOp (rIxT K) te ti) σ G c := fun H1 e Q k =>
  h H1 e _ fun v G2 H2 l a => hi H2 (e.trans l.h) _ fun H3 e3 => by
    obtain ⟨p, vs, rfl, hs, as⟩ := at_tup.mp a
    obtain ⟨x, hx, ax⟩ := as.get' (i := i) hc
    exact ⟨p, vs, _, x, rfl, rfl, ex_t (l.e.trans e3) hs, atI_nat hx, k x G2 H3 (l.trans (Le.heap l.e e3)) ax⟩
theorem len_d (h : EvD K O te σ G d) (hs : dSeq d = true) : Ev (tCB (fun xs H Q => ∃ p ys, xs = [V.ref p] ∧ (SqL K H p ys ∨ SqT K H p ys) ∧ Q (.int ys.length) H) (tCons te tNil)) σ G (.int (dLen d : Nat)) := fun H1 e Q q =>
  h H1 e _ fun v G2 H2 l a => by
    cases d with
    | lst ds =>
      obtain ⟨p, vs, rfl, hs, as⟩ := at_lst.mp a
      refine ⟨p, vs, rfl, Or.inl (sq_of (l.e _ _ hs)), ?_⟩
      rw [as.len]
      exact q H2 l.h
    | tup ds =>
      obtain ⟨p, vs, rfl, hs, as⟩ := at_tup.mp a
      refine ⟨p, vs, rfl, Or.inr (ex_t l.e hs), ?_⟩
      rw [as.len]
      exact q H2 l.h
    | _ => cases hs
end
theorem inV_int {i : Int} : ∀ {ns : List Int}, inV (.int i) (ns.map V.int) = ns.contains i
  | [] => rfl
  | n :: r => by
    have ih := inV_int (i := i) (ns := r)
    show (eqV (.int n) (.int i) || inV (.int i) (r.map V.int)) = (n :: r).contains i
    rw [ih, List.contains_cons]
    congr 1
    show (n == i) = (i == n)
    exact BEq.comm
end SR
set_option maxRecDepth 100000
set_option maxHeartbeats 4000000
namespace SR
open PySem PySem.Spec PyProof.Rows L2 Evl
/-! ### pairs of ints as a dict -/
def getI (m : List (Int × Int)) (o : Int) : Option Int := (m.find? fun q => decide (q.1 = o)).map (·.2)
def putI (m : List (Int × Int)) (o c : Int) : List (Int × Int) := if (m.any fun q => decide (q.1 = o)) = true then m.map (fun q => if q.1 = o then (q.1, c) else q) else m ++ [(o, c)]
theorem valV_kvI {o : Int} : ∀ {m : List (Int × Int)}, valV (kvI m) (Sum.inl o) = (getI m o).map V.int
  | [] => rfl
  | q :: r => by
    have ih := valV_kvI (o := o) (m := r)
    by_cases h : q.1 = o
    · have e : valV (kvI (q :: r)) (Sum.inl o : Key) = some (V.int q.2) := valV_pos (p := ((Sum.inl q.1 : Key), V.int q.2)) (by show (Sum.inl q.1 : Key) = Sum.inl o; rw [h])
      rw [e]
      simp [getI, h]
    · have e : valV (kvI (q :: r)) (Sum.inl o : Key) = valV (kvI r) (Sum.inl o) := valV_neg (p := ((Sum.inl q.1 : Key), V.int q.2)) (by show ¬ (Sum.inl q.1 : Key) = Sum.inl o; intro z; injection z with z; exact h z)
      rw [e, ih]
      simp [getI, h]
theorem any_kvI {o : Int} {m : List (Int × Int)} : ((kvI m).any fun kv => decide (kv.1 = (Sum.inl o : Key))) = m.any fun q => decide (q.1 = o) := by
  unfold kvI
  rw [List.any_map]
  congr 1
  funext q
  show decide ((Sum.inl q.1 : Key) = Sum.inl o) = decide (q.1 = o)
  exact decide_eq_decide.mpr ⟨fun z => by injection z, fun z => by rw [z]⟩
theorem putK_kvI {o c : Int} {m : List (Int × Int)} : putK (kvI m) (Sum.inl o) (V.int c) = kvI (putI m o c) := by
  unfold putK putI
  rw [any_kvI]
  by_cases h : (m.any fun q => decide (q.1 = o)) = true
  · rw [if_pos h, if_pos h]
    unfold kvI
    rw [List.map_map, List.map_map]
    refine List.map_congr_left fun q _ => ?_
    show (if (Sum.inl q.1 : Key) = Sum.inl o then ((Sum.inl q.1 : Key), V.int c) else (Sum.inl q.1, V.int q.2)) = (Sum.inl (if q.1 = o then (q.1, c) else q).1, V.int (if q.1 = o then (q.1, c) else q).2)
    by_cases hq : q.1 = o
    · rw [if_pos hq, if_pos (by rw [hq])]
    · rw [if_neg hq, if_neg (by intro z; injection z with z; exact hq z)]
  · rw [if_neg h, if_neg h]
    unfold kvI
    rw [List.map_append]
    rfl
theorem optInt_inj {a b : Option Int} (h : a.map V.int = b.map V.int) : a = b := by
  cases a <;> cases b <;> simp at h ⊢
  exact h
theorem getI_put {m : List (Int × Int)} {o c j : Int} : getI (putI m o c) j = if j = o then some c else getI m j := by
  refine optInt_inj ?_
  rw [← valV_kvI, ← putK_kvI, valV_put]
  by_cases h : j = o
  · rw [if_pos (by rw [h]), if_pos h]
    rfl
  · rw [if_neg (by intro z; injection z with z; exact h z), if_neg h, valV_kvI]
theorem len_put {m : List (Int × Int)} {o c : Int} : (putI m o c).length ≤ m.length + 1 := by
  unfold putI
  split <;> simp
theorem keys_put {m : List (Int × Int)} {o c : Int} : (putI m o c).map (·.1) = if (m.any fun q => decide (q.1 = o)) = true then m.map (·.1) else m.map (·.1) ++ [o] := by
  unfold putI
  split
  · rw [List.map_map]
    refine List.map_congr_left fun q _ => ?_
    show (if q.1 = o then (q.1, c) else q).1 = q.1
    split <;> rfl
  · rw [List.map_append]
    rfl
theorem any_keys {m : List (Int × Int)} {o : Int} : (m.any fun q => decide (q.1 = o)) = true ↔ o ∈ m.map (·.1) := by
  rw [List.any_eq_true, List.mem_map]
  exact ⟨fun ⟨q, h1, h2⟩ => ⟨q, h1, of_decide_eq_true h2⟩, fun ⟨q, h1, h2⟩ => ⟨q, h1, decide_eq_true h2⟩⟩
theorem nd_put {m : List (Int × Int)} {o c : Int} (h : (m.map (·.1)).Nodup) : ((putI m o c).map (·.1)).Nodup := by
  rw [keys_put]
  split
  · exact h
  · rename_i n
    rw [List.nodup_append]
    refine ⟨h, by simp, fun a ha b hb => ?_⟩
    rw [List.mem_singleton] at hb
    subst hb
    intro z
    subst z
    exact n (any_keys.mpr ha)
theorem getI_some {m : List (Int × Int)} {o : Int} : (getI m o).isSome = true ↔ o ∈ m.map (·.1) := by
  unfold getI
  rw [Option.isSome_map, List.find?_isSome, List.mem_map]
  exact ⟨fun ⟨q, h1, h2⟩ => ⟨q, h1, of_decide_eq_true h2⟩, fun ⟨q, h1, h2⟩ => ⟨q, h1, decide_eq_true h2⟩⟩
section
variable {ω : Type} {K : PySem.W.Frag} {O : OI ω} {G H : Hp} {td ty tx te ta tb : TE} {σ : L2.St} {a : Addr} {m : List (Int × Int)} {o z c : Int} {v : V} {De : Ends} {tz : TS}
theorem rd_ex {H H' : Hp} {a : Addr} {u : HO} (e : Ex H H') (h : Rd H a u) : Rd H' a u := ex_rd e h
theorem ev_dget2 (hd : Ev td σ G (.ref a)) (hm : G a = some (.dK (kvI m))) (hy : Ev ty σ G (.int o)) (hx : Ev tx σ G (.int z)) : Ev (tDGet2 td ty tx) σ G (.int ((getI m o).getD z)) := fun H1 e Q q =>
  hd H1 e _ fun H2 e2 => ⟨a, rfl, Or.inl ⟨kvI m, Or.inl (e2 a _ (e a _ hm))⟩, hy H2 (e.trans e2) _ fun H3 e3 => hx H3 ((e.trans e2).trans e3) _ fun H4 e4 =>
    ⟨_, DGet.k (k := Sum.inl o) (((e.trans e2).trans e3).trans e4 a _ hm), by
      rw [valV_kvI]
      have q' := q H4 ((e2.trans e3).trans e4)
      cases hg : getI m o with
      | none => rw [hg] at q'; exact q'
      | some x => rw [hg] at q'; exact q'⟩⟩
theorem ev_dget (hd : Ev td σ G (.ref a)) (hm : G a = some (.dK (kvI m))) (hy : Ev ty σ G (.int o)) (hc : getI m o = some c) : Ev (tDGet td ty) σ G (.int c) := fun H1 e Q q =>
  hd H1 e _ fun H2 e2 => hy H2 (e.trans e2) _ fun H3 e3 => ⟨a, .int c, rfl, by
      have h1 := DGet.k (k := Sum.inl o) ((e.trans e2).trans e3 a _ hm)
      rw [valV_kvI, hc] at h1
      exact h1, q H3 (e2.trans e3)⟩
theorem s_setD (hm : H a = some (.dK (kvI m))) (h : Ev te σ H (.int c)) (ho : Ev ta σ H (.ref a)) (hi : Ev tb σ H (.int o)) (hz : m.length < 1000000) (k : ∀ H1, Ex H H1 → De.nx σ (upd H1 a (.dK (kvI (putI m o c))))) :
    tAsg te (gSub ta tb rSetD) De σ H := h H (Ex.refl H) _ fun H1 e1 => ho H1 e1 _ fun H2 e2 => hi H2 (e1.trans e2) _ fun H3 e3 =>
  ⟨a, _, rfl, DPut.k (k := Sum.inl o) (v := .int c) (((e1.trans e2).trans e3) a _ hm) (by unfold kvI; rw [List.length_map]; exact Nat.lt_of_lt_of_le hz (of_decide_eq_true (id (Eq.refl true)))), by
    rw [putK_kvI]
    exact k H3 ((e1.trans e2).trans e3)⟩
theorem q_setD (hm : H a = some (.dK (kvI m))) (h : Ev te σ H (.int c)) (ho : Ev ta σ H (.ref a)) (hi : Ev tb σ H (.int o)) (hz : m.length < 1000000) (k : ∀ H1, Ex H H1 → tz De σ (upd H1 a (.dK (kvI (putI m o c))))) :
    tSeq (tAsg te (gSub ta tb rSetD)) tz De σ H := s_setD (De := { De with nx := tz De }) hm h ho hi hz k
/-- {} -/
theorem q_newD {i : Nat} (k : ∀ p, H p = none → tz De (σ.set i (some (.ref p))) (upd H p (.dK []))) : tSeq (tAsg tDNewK (gName i)) tz De σ H := fun p hp => k p hp

/-! ### a dict's keys walked under a lock -/
mutual
def noObj : D ω → Bool
  | .lst l => noObjL l
  | .tup l => noObjL l
  | .dic _ => false
  | .obj _ => false
  | _ => true
def noObjL : List (D ω) → Bool
  | [] => true
  | d :: l => noObj d && noObjL l
end
theorem sql_swap {A B : Hp} {od : Obj} {kvs : List (Key × V)} {p : Addr} {xs : List V} (hne : ∀ x, x ≠ a → A x = B x) (hA : A a = some (.frz od (.dK kvs))) (h : SqL K A p xs) : SqL K B p xs := by
  rcases h with (h | ⟨o, h⟩) | h
  · have n : p ≠ a := by intro z; subst z; rw [hA] at h; cases h
    exact .inl (.inl (by rw [← hne p n]; exact h))
  · have n : p ≠ a := by intro z; subst z; rw [hA] at h; cases h
    exact .inl (.inr ⟨o, by rw [← hne p n]; exact h⟩)
  · exact .inr h
theorem sqt_swap {A B : Hp} {od : Obj} {kvs : List (Key × V)} {p : Addr} {xs : List V} (hne : ∀ x, x ≠ a → A x = B x) (hA : A a = some (.frz od (.dK kvs))) (h : SqT K A p xs) : SqT K B p xs := by
  rcases h with (h | ⟨o, h⟩) | h
  · have n : p ≠ a := by intro z; subst z; rw [hA] at h; cases h
    exact .inl (.inl (by rw [← hne p n]; exact h))
  · have n : p ≠ a := by intro z; subst z; rw [hA] at h; cases h
    exact .inl (.inr ⟨o, by rw [← hne p n]; exact h⟩)
  · exact .inr h
mutual
theorem at_swap {A B : Hp} {od : Obj} {kvs : List (Key × V)} (hne : ∀ x, x ≠ a → A x = B x) (hA : A a = some (.frz od (.dK kvs))) : ∀ {d : D ω} {v : V}, noObj d = true → At K O A d v → At K O B d v
  | .non, v, _, h => by rw [at_non] at h ⊢; exact h
  | .bl b, v, _, h => by rw [at_bl] at h ⊢; exact h
  | .int i, v, _, h => by rw [at_int] at h ⊢; exact h
  | .str x, v, _, h => by rw [at_str] at h ⊢; exact h
  | .lst l, v, n, h => by
    obtain ⟨p, vs, e, hs, as⟩ := at_lst.mp h
    have np : p ≠ a := by intro z; subst z; rw [hA] at hs; cases hs
    exact at_lst.mpr ⟨p, vs, e, (by rw [← hne p np]; exact hs), atL_swap hne hA (by simpa only [noObj] using n) as⟩
  | .tup l, v, n, h => by
    obtain ⟨p, vs, e, hs, as⟩ := at_tup.mp h
    exact at_tup.mpr ⟨p, vs, e, sqt_swap hne hA hs, atL_swap hne hA (by simpa only [noObj] using n) as⟩
  | .dic m, v, n, h => by simp only [noObj] at n; cases n
  | .obj w, v, n, h => by simp only [noObj] at n; cases n
theorem atL_swap {A B : Hp} {od : Obj} {kvs : List (Key × V)} (hne : ∀ x, x ≠ a → A x = B x) (hA : A a = some (.frz od (.dK kvs))) : ∀ {l : List (D ω)} {vs : List V}, noObjL l = true → AtL K O A l vs → AtL K O B l vs
  | [], vs, _, h => by rw [atL_nil] at h ⊢; exact h
  | d :: l, vs, n, h => by
    obtain ⟨v, r, e, h1, h2⟩ := atL_cons.mp h
    simp only [noObjL, Bool.and_eq_true] at n
    exact atL_cons.mpr ⟨v, r, e, at_swap hne hA n.1 h1, atL_swap hne hA n.2 h2⟩
end
/-- a comprehension over a known dict: within, the dict stands locked -/
theorem ed_lock {t : TE} {d : D ω} {u : HO} (hm : G a = some u) (hu : Mut (some u)) (hk : ∃ kvs, u = .dK kvs) (n : noObj d = true) (h : ∀ od, EvD K O t σ (upd G a (.frz od u)) d) : EvD K O (tLockE t) σ G d := fun H1 e Q k => by
  obtain ⟨kvs, rfl⟩ := hk
  refine ⟨a, _, e a _ hm, hu, fun od => ?_⟩
  have e1 : Ex (upd G a (.frz od (.dK kvs))) (upd H1 a (.frz od (.dK kvs))) := fun x y q => by
    by_cases z : x = a
    · subst z; rw [upd_same] at q ⊢; exact q
    · rw [upd_ne z] at q ⊢; exact e x y q
  refine h od _ e1 _ fun v G2 H2 l av => ⟨l.h a _ upd_same, ?_⟩
  have hG2 : G2 a = some (.frz od (.dK kvs)) := l.g a _ upd_same
  have hH2 : H2 a = some (.frz od (.dK kvs)) := l.h a _ upd_same
  refine k v (upd G2 a (.dK kvs)) (upd H2 a (.dK kvs)) ⟨fun x y q => ?_, fun x y q => ?_, fun x y q => ?_, fun x hg hh => ?_, fun x ps q => ?_⟩ (at_swap (fun x z => by rw [upd_ne z]) hG2 n av)
  · by_cases z : x = a
    · subst z; rw [upd_same, ← q]; exact (e x _ hm).symm
    · rw [upd_ne z]; exact l.h x y (by rw [upd_ne z]; exact q)
  · by_cases z : x = a
    · subst z; rw [upd_same, ← q]; exact hm.symm
    · rw [upd_ne z]; exact l.g x y (by rw [upd_ne z]; exact q)
  · by_cases z : x = a
    · subst z; rw [upd_same] at q ⊢; exact q
    · rw [upd_ne z] at q ⊢; exact l.e x y q
  · by_cases z : x = a
    · subst z; rw [hm] at hg; cases hg
    · rw [upd_ne z]; exact l.f x (by rw [upd_ne z]; exact hg) (by rw [upd_ne z]; exact hh)
  · by_cases z : x = a
    · subst z; rw [upd_same] at q; cases q
    · rw [upd_ne z] at q
      have := l.t x ps q
      rwa [upd_ne z] at this
/-- its keys -/
theorem src_keys {od : Obj} (hd : Ev td σ G (.ref a)) (hm : G a = some (.frz od (.dK (kvI m)))) : Src K O (iKeys td) σ G (m.map fun q => D.int q.1) := fun H1 e R k =>
  hd H1 e _ fun H2 e2 => by
    refine ⟨a, od, rfl, Or.inl ⟨kvI m, e2 a _ (e a _ hm), ?_⟩⟩
    refine k (Itk a od (kvI m)) _ _ G H2 (Le.heap e e2) (by rw [show (m.map fun q => (D.int q.1 : D ω)).length = (kvI m).length by simp [kvI]]; exact walk_keys) (fun H x => x a _ hm) fun i Gi Hi x Hi' eg eh hi y => ?_
    obtain ⟨rfl, kk, vv, h1, rfl⟩ := y
    have hi' : i < m.length := by simpa using hi
    have e3 : (kvI m)[i]? = some (Sum.inl (m[i]).1, V.int (m[i]).2) := by simp [kvI, hi']
    rw [e3] at h1
    cases h1
    exact ⟨.int (m[i]).1, Gi, by simp [hi'], Le.refl eh, at_int.mpr rfl⟩
end
end SR
set_option maxRecDepth 100000
set_option maxHeartbeats 4000000
namespace SR
open PySem PySem.Spec PyProof.Rows L2 Evl
/-! ### sorted ints -/
def srt (l : List Int) : List Int := l.mergeSort fun a b => decide (a ≤ b)
theorem srt_perm {l : List Int} : (srt l).Perm l := List.mergeSort_perm l _
theorem srt_pair {l : List Int} : (srt l).Pairwise (· ≤ ·) := by
  have h := List.pairwise_mergeSort (le := fun a b : Int => decide (a ≤ b)) (fun a b c h1 h2 => decide_eq_true (Int.le_trans (of_decide_eq_true h1) (of_decide_eq_true h2))) (fun a b => by
    rcases Int.le_total a b with h | h
    · simp [h]
    · simp [h]) l
  exact h.imp fun h => of_decide_eq_true h
theorem srt_one {l m : List Int} (h : m.Perm l) (p : m.Pairwise (· ≤ ·)) : m = srt l := PySem.W.ksm_same (h.trans srt_perm.symm) p srt_pair
section
variable {ω : Type} {K : PySem.W.Frag} {O : OI ω} {G H : Hp} {te : TE} {σ : L2.St}
theorem ed_sorted {ns : List Int} (h : EvD K O te σ G (.lst (ns.map D.int))) : EvD K O (tCB (rSortedI K) (tCons te tNil)) σ G (.lst ((srt ns).map D.int)) := fun H1 e Q k =>
  h H1 e _ fun v G2 H2 l a => by
    obtain ⟨p, vs, rfl, hs, as⟩ := at_lst.mp a
    obtain rfl := AtL.ints' as
    refine ⟨p, ns, rfl, sq_of (l.e _ _ hs), fun ns' q hp hq hn => ?_⟩
    obtain rfl := srt_one hp hq
    exact k (.ref q) (upd G2 q _) _ (l.trans (Le.new l.e hn)) (at_lst.mpr ⟨q, _, rfl, upd_same, AtL.ints⟩)
end
/-! ### rows of two ints, their sums by the first -/
def rowD {ω : Type} (c : D ω) (q : Int × Int) : Prop := c = .lst [.int q.1, .int q.2] ∨ c = .tup [.int q.1, .int q.2]
def pairD {ω : Type} (q : Int × Int) : D ω := .tup [.int q.1, .int q.2]
inductive RowsL {ω : Type} : List (D ω) → List (Int × Int) → Prop where
  | nil : RowsL [] []
  | cons {c q l r} (h : rowD c q) (t : RowsL l r) : RowsL (c :: l) (q :: r)
def RowsD {ω : Type} (d : D ω) (rows : List (Int × Int)) : Prop := ∃ l, (d = .lst l ∨ d = .tup l) ∧ RowsL l rows
theorem RowsL.len {ω : Type} {l : List (D ω)} {r : List (Int × Int)} (h : RowsL l r) : l.length = r.length := by
  induction h with
  | nil => rfl
  | cons _ _ ih => simp [ih]
theorem RowsL.get {ω : Type} {l : List (D ω)} {r : List (Int × Int)} (h : RowsL l r) : ∀ {i : Nat} {c : D ω}, l[i]? = some c → ∃ q, r[i]? = some q ∧ rowD c q := by
  induction h with
  | nil => intro i c e; simp at e
  | cons h t ih =>
    intro i c e
    cases i with
    | zero =>
      have e' := Option.some.inj e
      subst e'
      exact ⟨_, rfl, h⟩
    | succ i => exact ih (i := i) (by simpa using e)
theorem RowsL.pairs {ω : Type} : ∀ {r : List (Int × Int)}, RowsL (ω := ω) (r.map pairD) r
  | [] => .nil
  | q :: r => .cons (Or.inr rfl) RowsL.pairs
def step (p : Int) (m : List (Int × Int)) (q : Int × Int) : List (Int × Int) := putI m q.1 (((getI m q.1).getD 0 + q.2).fmod p)
def sums (p : Int) (rows : List (Int × Int)) : List (Int × Int) := rows.foldl (step p) []
theorem sums_more {p : Int} {rows : List (Int × Int)} {i : Nat} {q : Int × Int} (h : rows[i]? = some q) : sums p (rows.take (i + 1)) = step p (sums p (rows.take i)) q := by
  unfold sums
  rw [take_snoc h, List.foldl_append]
  rfl
theorem sums_len {p : Int} : ∀ {rows m : List (Int × Int)}, (rows.foldl (step p) m).length ≤ m.length + rows.length
  | [], m => by simp
  | q :: r, m => by
    have h1 := sums_len (p := p) (rows := r) (m := step p m q)
    have h2 := len_put (m := m) (o := q.1) (c := ((getI m q.1).getD 0 + q.2).fmod p)
    rw [List.foldl_cons, List.length_cons]
    unfold step at h1
    unfold step
    omega
theorem sums_nd {p : Int} : ∀ {rows m : List (Int × Int)}, (m.map (·.1)).Nodup → ((rows.foldl (step p) m).map (·.1)).Nodup
  | [], m, h => h
  | q :: r, m, h => sums_nd (rows := r) (m := step p m q) (nd_put h)
def coef (p : Int) (rows : List (Int × Int)) (o : Int) : Int := (getI (sums p rows) o).getD 0
def coll (p : Int) (rows : List (Int × Int)) : List (Int × Int) := ((srt ((sums p rows).map (·.1))).filter fun o => coef p rows o != 0).map fun o => (o, coef p rows o)
/-- the coefficient: the sum of the second ones at the place, modulo p -/
def tot (rows : List (Int × Int)) (o : Int) : Int := (rows.filter fun q => q.1 == o).foldl (fun s q => s + q.2) 0
theorem et_yes {σ : L2.St} {G : Hp} : EvT tYes σ G true := fun H1 _ Q q => q H1 (Ex.refl H1)
theorem noObj_ints {ω : Type} : ∀ {l : List Int}, noObjL (ω := ω) (l.map D.int) = true
  | [] => rfl
  | n :: r => by
    show (noObj (D.int n : D ω) && noObjL (r.map D.int)) = true
    rw [noObj_ints]
    rfl
theorem ev_int1 {te : TE} {σ : L2.St} {G : Hp} {i : Int} (h : Ev te σ G (.int i)) : Ev (tCB (fun xs H Q => (∃ i, xs = [V.int i] ∧ Q (.int i) H) ∨ ∃ k, xs = [V.bl k] ∧ Q (.int (if k then 1 else 0)) H) (tCons te tNil)) σ G (.int i) := fun H1 e Q q =>
  h H1 e _ fun H2 e2 => Or.inl ⟨i, rfl, q H2 e2⟩
theorem et_truI {te : TE} {K : PySem.W.Frag} {σ : L2.St} {G : Hp} {i : Int} (h : Ev te σ G (.int i)) : EvT (fun σ H Q => te σ H fun x H' => ∃ k, TruV K x H' k ∧ Q k H') σ G (i != 0) := fun H1 e Q q => h H1 e _ fun H2 e2 => ⟨i != 0, rfl, q H2 e2⟩
end SR
set_option maxRecDepth 100000
set_option maxHeartbeats 4000000
/-! The rules whose readings name the written part, with that part told: for a comprehension's block. -/
namespace SR
open PySem PySem.Spec PyProof.Rows L2 Evl
def tTruK (K : PySem.W.Frag) (ta : TE) : TT := fun σ H Q => ta σ H fun x H' => ∃ k, TruV K x H' k ∧ Q k H'
section
variable {X : Cx} {a b e : Expr} {es : List Expr} {ta tb : TE} {t : TA} {tg : TGs} {pos p : Pos} {n k : Nat} {x : Str} {f : Str}
theorem pt_truK (K : PySem.W.Frag) (ha : PE X a ta) (he : ∀ whole, isTrue a X.env whole = (do let v ← whole; standAt a.pos; holding [v] (truthy v))) (hK : X.K = K := by rfl) : PT X a (tTruK K ta) := by
  subst hK
  exact pt_truth ha he
theorem pe_ixK (K : PySem.W.Frag) (ha : PE X a ta) (hb : PE X b tb) (hs : PlainIx b) (hK : X.K = K := by rfl) : PE X (.Subscript a b pos) (tOp (fun x y H Q => rIxL K x y H Q ∨ rIxT K x y H Q) ta tb) := by
  subst hK
  exact pe_ix (IxR.or ix_list ix_tup) ha hb hs
theorem pe_ixLK (K : PySem.W.Frag) (ha : PE X a ta) (hb : PE X b tb) (hs : PlainIx b) (hK : X.K = K := by rfl) : PE X (.Subscript a b pos) (tOp (rIxL K) ta tb) := by
  subst hK
  exact pe_ix ix_list ha hb hs
theorem pe_ixTK (K : PySem.W.Frag) (ha : PE X a ta) (hb : PE X b tb) (hs : PlainIx b) (hK : X.K = K := by rfl) : PE X (.Subscript a b pos) (tOp (rIxT K) ta tb) := by
  subst hK
  exact pe_ix ix_tup ha hb hs
theorem pg_tupK (K : PySem.W.Frag) (hc : X.calm = true) (h : PGs X es tg) (hn : (assignEach es X.env).length = k := by rfl) (hst : (assignEach es X.env).findIdx? (·.1) = none := by rfl) (hK : X.K = K := by rfl) : PG X (.Tuple es n pos) (gTup K k tg) := by
  subst hK
  exact pg_tup hc h hn hst
theorem pe_fldK (K : PySem.W.Frag) (he : PE X e ta) (hb : attributeBase e f X.env (eval e X.env) = eval e X.env := by rfl) (hK : X.K = K := by rfl) : PE X (.Attribute e f pos) (tFld K ta f) := by
  subst hK
  exact pe_fld he hb
theorem cr_allK (K : PySem.W.Frag) (hc : X.calm = true) (hK : X.K = K := by rfl) : CallR X (.builtin "all") (rAll K) := by
  subst hK
  exact cr_all hc
theorem cr_anyK (K : PySem.W.Frag) (hc : X.calm = true) (hK : X.K = K := by rfl) : CallR X (.builtin "any") (rAny K) := by
  subst hK
  exact cr_any hc
theorem call_lenK (K : PySem.W.Frag) (hK : X.K = K := by rfl) : CallR X (.builtin "len") (fun xs H Q => ∃ p ys, xs = [V.ref p] ∧ (SqL K H p ys ∨ SqT K H p ys) ∧ Q (.int ys.length) H) := by
  subst hK
  exact call_len_seq
theorem call_isiK' (K : PySem.W.Frag) (hK : X.K = K := by rfl) : CallR X (.builtin "isinstance") (rIsi K) := by
  subst hK
  exact call_isi
theorem call_isiTK (K : PySem.W.Frag) (hK : X.K = K := by rfl) : CallR X (.builtin "isinstance") (rIsiT K) := by
  subst hK
  exact call_isiT
end
end SR
set_option maxRecDepth 100000
set_option maxHeartbeats 4000000
namespace SR
open PySem PySem.Spec PyProof.Rows L2 Evl
theorem putI_new {a : List (Int × Int)} {o c : Int} (h : o ∉ a.map (·.1)) : putI a o c = a ++ [(o, c)] := by
  unfold putI
  rw [if_neg (fun z => h (any_keys.mp z))]
theorem mergeK_kvI : ∀ {b a : List (Int × Int)}, ((a ++ b).map (·.1)).Nodup → mergeK (kvI a) (kvI b) = kvI (a ++ b)
  | [], a, _ => by rw [List.append_nil]; rfl
  | q :: r, a, h => by
    have hn : q.1 ∉ a.map (·.1) := by
      rw [List.map_append, List.map_cons, List.nodup_append] at h
      intro z
      exact h.2.2 q.1 z q.1 (List.mem_cons_self ..) rfl
    show mergeK (putK (kvI a) (Sum.inl q.1) (V.int q.2)) (kvI r) = kvI (a ++ q :: r)
    rw [putK_kvI, putI_new hn]
    have e : a ++ q :: r = (a ++ [q]) ++ r := by simp
    rw [e]
    exact mergeK_kvI (by rw [← e]; exact h)
theorem nd_map_fst {l : List Int} {f : Int → Int} : ((l.map fun o => (o, f o)).map (·.1)) = l := by
  rw [List.map_map]
  exact List.map_id' l
theorem coll_nd {p : Int} {rows : List (Int × Int)} : ((coll p rows).map (·.1)).Nodup := by
  unfold coll
  rw [nd_map_fst]
  exact (srt_perm.nodup_iff.mpr (sums_nd (rows := rows) (m := []) List.nodup_nil)).filter _
theorem coll_len {p : Int} {rows : List (Int × Int)} : (coll p rows).length ≤ rows.length := by
  unfold coll
  rw [List.length_map]
  refine Nat.le_trans (List.length_filter_le ..) ?_
  rw [srt_perm.length_eq, List.length_map]
  have h5 := sums_len (p := p) (rows := rows) (m := [])
  simp only [List.length_nil] at h5
  unfold sums
  omega
/-! ### what a Filter holds -/
structure FilS where
  p : Int
  ps : List (Int × Int)
def flds (p : Int) (tp kd : Addr) : List (Str × V) := [("prime", .int p), ("pairs", .ref tp), ("coefficients", .ref kd)]
abbrev TsAt (K : PySem.W.Frag) (H : Hp) (ts : List Addr) (ps : List (Int × Int)) : Prop := Paired (fun t q => SqT K H t [.int q.1, .int q.2]) ts ps
def FilAt (K : PySem.W.Frag) (C : Addr) (H : Hp) (a : Addr) (w : FilS) : Prop := ∃ dx tp o ts kd, H a = some (.ins C dx (flds w.p tp kd)) ∧ o.dict = none ∧ H tp = some (.frz o (.tup (ts.map V.ref))) ∧ TsAt K H ts w.ps ∧ H kd = some (.dK (kvI w.ps))
theorem TsAt.mono {K : PySem.W.Frag} {H H' : Hp} (e : Ex H H') {ts : List Addr} {ps : List (Int × Int)} (h : TsAt K H ts ps) : TsAt K H' ts ps := Paired.mapP h fun _ _ q => ex_t e q
def FilO (K : PySem.W.Frag) (C : Addr) : OI FilS where
  at_ := FilAt K C
  mono := fun e ⟨dx, tp, o, ts, kd, h1, h2, h3, h4, h5⟩ => ⟨dx, tp, o, ts, kd, e _ _ h1, h2, e _ _ h3, h4.mono e, e _ _ h5⟩
theorem atL_pairs {ω : Type} {K : PySem.W.Frag} {O : OI ω} {H : Hp} : ∀ {ts : List Addr} {ps : List (Int × Int)}, TsAt K H ts ps → AtL K O H (ps.map pairD) (ts.map V.ref)
  | _, _, .nil => atL_nil.mpr rfl
  | _, _, .cons h t => atL_cons.mpr ⟨_, _, rfl, at_tup.mpr ⟨_, _, rfl, h, atL_cons.mpr ⟨_, _, rfl, at_int.mpr rfl, atL_cons.mpr ⟨_, _, rfl, at_int.mpr rfl, atL_nil.mpr rfl⟩⟩⟩, atL_pairs t⟩
theorem pairs_atL {ω : Type} {K : PySem.W.Frag} {O : OI ω} {H : Hp} : ∀ {ps : List (Int × Int)} {vs : List V}, AtL K O H (ps.map pairD) vs → ∃ ts : List Addr, vs = ts.map V.ref ∧ TsAt K H ts ps
  | [], vs, h => ⟨[], by rw [atL_nil.mp h]; rfl, .nil⟩
  | q :: r, vs, h => by
    obtain ⟨v, w, rfl, h1, h2⟩ := atL_cons.mp h
    obtain ⟨t, us, rfl, hs, as⟩ := at_tup.mp h1
    obtain ⟨x1, r1, rfl, a1, n1⟩ := atL_cons.mp as
    obtain ⟨x2, r2, rfl, a2, n2⟩ := atL_cons.mp n1
    obtain rfl := atL_nil.mp n2
    obtain rfl := at_int.mp a1
    obtain rfl := at_int.mp a2
    obtain ⟨ts, rfl, ht⟩ := pairs_atL h2
    exact ⟨t :: ts, rfl, .cons hs ht⟩
/-- the class as the top has made it, for its fields -/
structure FilC (K : PySem.W.Frag) (C : Addr) : Prop where
  cl : Cls K C
  n1 : NoAttr K C "prime"
  n2 : NoAttr K C "pairs"
  n3 : NoAttr K C "coefficients"
theorem lk1 {p : Int} {tp kd : Addr} : (flds p tp kd).lookup ("prime" : Str) = some (.int p) := by
  unfold flds
  simp [List.lookup]
theorem lk2 {p : Int} {tp kd : Addr} : (flds p tp kd).lookup ("pairs" : Str) = some (.ref tp) := by
  unfold flds
  have h : (("pairs" : Str) == "prime") = false := by decide +kernel
  simp [List.lookup, h]
theorem lk3 {p : Int} {tp kd : Addr} : (flds p tp kd).lookup ("coefficients" : Str) = some (.ref kd) := by
  unfold flds
  have h : (("coefficients" : Str) == "prime") = false := by decide +kernel
  have h2 : (("coefficients" : Str) == "pairs") = false := by decide +kernel
  simp [List.lookup, h, h2]
theorem lkN {p : Int} {tp kd : Addr} {m : Str} (h1 : (m == "prime") = false) (h2 : (m == "pairs") = false) (h3 : (m == "coefficients") = false) : (flds p tp kd).lookup m = none := by
  unfold flds
  simp [List.lookup, h1, h2, h3]
section
variable {K : PySem.W.Frag} {C : Addr} {G H : Hp} {te ta : TE} {σ : L2.St} {w : FilS}
theorem ev_prime (c : FilC K C) (h : EvD K (FilO K C) te σ G (.obj w)) : Ev (tFld K te "prime") σ G (.int w.p) := fun H1 e Q q =>
  h H1 e _ fun v G2 H2 l a => by
    obtain ⟨x, rfl, dx, tp, o, ts, kd, h1, h2, h3, h4, h5⟩ := at_obj.mp a
    exact ⟨x, C, dx, _, _, rfl, l.e _ _ h1, c.cl, c.n1, lk1, q H2 l.h⟩
/-- self.pairs: the tuple -/
theorem ed_pairs (c : FilC K C) (h : EvD K (FilO K C) te σ G (.obj w)) : EvD K (FilO K C) (tFld K te "pairs") σ G (.tup (w.ps.map pairD)) := fun H1 e Q k =>
  h H1 e _ fun v G2 H2 l a => by
    obtain ⟨x, rfl, dx, tp, o, ts, kd, h1, h2, h3, h4, h5⟩ := at_obj.mp a
    exact ⟨x, C, dx, _, _, rfl, l.e _ _ h1, c.cl, c.n2, lk2, k _ G2 H2 l (at_tup.mpr ⟨tp, _, rfl, Or.inl (Or.inr ⟨o, h3⟩), atL_pairs h4⟩)⟩
theorem ed_coefs (c : FilC K C) (h : EvD K (FilO K C) te σ G (.obj w)) : EvD K (FilO K C) (tFld K te "coefficients") σ G (.dic w.ps) := fun H1 e Q k =>
  h H1 e _ fun v G2 H2 l a => by
    obtain ⟨x, rfl, dx, tp, o, ts, kd, h1, h2, h3, h4, h5⟩ := at_obj.mp a
    exact ⟨x, C, dx, _, _, rfl, l.e _ _ h1, c.cl, c.n3, lk3, k _ G2 H2 l (at_dic.mpr ⟨kd, rfl, h5⟩)⟩
end
end SR
set_option maxRecDepth 100000
set_option maxHeartbeats 4000000
namespace SR
open PySem PySem.Spec PyProof.Rows L2 Evl
/-! ### == of plain data -/
mutual
def toP {ω : Type} : D ω → PyData
  | .non => .none | .bl b => .bool b | .int i => .int i | .str x => .str x
  | .lst l => .list (toPL l) | .tup l => .tuple (toPL l) | .dic _ => .none | .obj _ => .none
def toPL {ω : Type} : List (D ω) → List PyData
  | [] => []
  | d :: l => toP d :: toPL l
end
section
variable {ω : Type} {K : PySem.W.Frag} {O : OI ω} {H : Hp}
mutual
theorem dp_of : ∀ {d : D ω} {v : V}, noObj d = true → At K O H d v → Dp K H v (toP d)
  | .non, v, _, h => by rw [at_non.mp h]; exact .non
  | .bl b, v, _, h => by rw [at_bl.mp h]; exact .bl b
  | .int i, v, _, h => by rw [at_int.mp h]; exact .int i
  | .str x, v, _, h => by rw [at_str.mp h]; exact .str x
  | .lst l, v, n, h => by
    obtain ⟨a, vs, rfl, hs, as⟩ := at_lst.mp h
    exact .lst (sq_of hs) (dpl_of (by simpa only [noObj] using n) as)
  | .tup l, v, n, h => by
    obtain ⟨a, vs, rfl, hs, as⟩ := at_tup.mp h
    exact .tup hs (dpl_of (by simpa only [noObj] using n) as)
  | .dic m, v, n, h => by simp only [noObj] at n; cases n
  | .obj w, v, n, h => by simp only [noObj] at n; cases n
theorem dpl_of : ∀ {l : List (D ω)} {vs : List V}, noObjL l = true → AtL K O H l vs → DpAll K H vs (toPL l)
  | [], vs, _, h => by rw [atL_nil.mp h]; exact .nil
  | d :: l, vs, n, h => by
    obtain ⟨v, r, rfl, h1, h2⟩ := atL_cons.mp h
    simp only [noObjL, Bool.and_eq_true] at n
    exact .cons (dp_of n.1 h1) (dpl_of n.2 h2)
end
end
theorem ev_eqD {ω : Type} {K : PySem.W.Frag} {O : OI ω} {G : Hp} {ta tb : TE} {σ : L2.St} {d e : D ω} {b : Bool} (h1 : EvD K O ta σ G d) (h2 : EvD K O tb σ G e) (n1 : noObj d = true) (n2 : noObj e = true) (s1 : SeqAt.shaped (toP d) = true) (s2 : SeqAt.shaped (toP e) = true) (hb : PyData.eqv (toP d) (toP e) = b) :
    Ev (tOp (rEqD K) ta tb) σ G (.bl b) := fun H1 e1 Q q =>
  h1 H1 e1 _ fun v G2 H2 l a => h2 H2 (e1.trans l.h) _ fun u G3 H3 l3 a3 => ⟨toP d, toP e, dp_of n1 ((a.mono l.e).mono l3.h), dp_of n2 (a3.mono l3.e), s1, s2, by rw [hb]; exact q H3 (l.h.trans l3.h)⟩
theorem ev_neD {ω : Type} {K : PySem.W.Frag} {O : OI ω} {G : Hp} {ta tb : TE} {σ : L2.St} {d e : D ω} {b : Bool} (h1 : EvD K O ta σ G d) (h2 : EvD K O tb σ G e) (n1 : noObj d = true) (n2 : noObj e = true) (s1 : SeqAt.shaped (toP d) = true) (s2 : SeqAt.shaped (toP e) = true) (hb : PyData.eqv (toP d) (toP e) = b) :
    Ev (tOp (rNeD K) ta tb) σ G (.bl (!b)) := fun H1 e1 Q q =>
  h1 H1 e1 _ fun v G2 H2 l a => h2 H2 (e1.trans l.h) _ fun u G3 H3 l3 a3 => ⟨toP d, toP e, dp_of n1 ((a.mono l.e).mono l3.h), dp_of n2 (a3.mono l3.e), s1, s2, by rw [hb]; exact q H3 (l.h.trans l3.h)⟩
/-! ### lists of pairs of ints -/
theorem noObj_pairs {ω : Type} : ∀ {ps : List (Int × Int)}, noObjL (ω := ω) (ps.map pairD) = true
  | [] => rfl
  | q :: r => by
    show (noObj (pairD q : D ω) && noObjL (r.map pairD)) = true
    rw [noObj_pairs]
    rfl
theorem lay_pairs {ω : Type} : ∀ {ps : List (Int × Int)}, PyData.canLayAll0 (toPL (ω := ω) (ps.map pairD)) = true ∧ PyData.depthAll (toPL (ω := ω) (ps.map pairD)) ≤ 1
  | [] => ⟨rfl, Nat.zero_le _⟩
  | q :: r => by
    have ih := lay_pairs (ω := ω) (ps := r)
    refine ⟨?_, ?_⟩
    · show (PyData.canLay0 (toP (pairD q : D ω)) && PyData.canLayAll0 (toPL (r.map pairD))) = true
      rw [ih.1]
      rfl
    · show max (PyData.depth (toP (pairD q : D ω))) (PyData.depthAll (toPL (r.map pairD))) ≤ 1
      have h1 : PyData.depth (toP (pairD q : D ω)) = 1 := rfl
      rw [h1]
      have := ih.2
      omega
theorem shaped_tup {ω : Type} {ps : List (Int × Int)} : SeqAt.shaped (toP (D.tup (ω := ω) (ps.map pairD))) = true := by
  have h := lay_pairs (ω := ω) (ps := ps)
  show (PyData.canLayAll0 (toPL (ps.map pairD)) && decide (PyData.depthAll (toPL (ω := ω) (ps.map pairD)) + 1 ≤ 64)) = true
  rw [h.1, decide_eq_true (by have := h.2; omega)]
  rfl
theorem shaped_lst {ω : Type} {ps : List (Int × Int)} : SeqAt.shaped (toP (D.lst (ω := ω) (ps.map pairD))) = true := by
  have h := lay_pairs (ω := ω) (ps := ps)
  show (PyData.canLayAll0 (toPL (ps.map pairD)) && decide (PyData.depthAll (toPL (ω := ω) (ps.map pairD)) + 1 ≤ 64)) = true
  rw [h.1, decide_eq_true (by have := h.2; omega)]
  rfl
theorem eqv_pairs {ω : Type} : ∀ {ps qs : List (Int × Int)}, PyData.eqvAll (toPL (ω := ω) (ps.map pairD)) (toPL (ω := ω) (qs.map pairD)) = decide (ps = qs)
  | [], [] => rfl
  | [], q :: s => rfl
  | p :: r, [] => rfl
  | p :: r, q :: s => by
    have ih := eqv_pairs (ω := ω) (ps := r) (qs := s)
    show (PyData.eqv (toP (pairD p : D ω)) (toP (pairD q : D ω)) && PyData.eqvAll (toPL (r.map pairD)) (toPL (s.map pairD))) = decide (p :: r = q :: s)
    rw [ih]
    have h1 : PyData.eqv (toP (pairD p : D ω)) (toP (pairD q : D ω)) = decide (p = q) := by
      show ((p.1 == q.1) && ((p.2 == q.2) && true)) = decide (p = q)
      obtain ⟨a, b⟩ := p
      obtain ⟨c, d⟩ := q
      by_cases h : a = c <;> by_cases h' : b = d <;> simp [h, h']
    rw [h1]
    by_cases h : p = q <;> by_cases h' : r = s <;> simp [h, h']
/-! ### list(t), bool(t), tests of a tuple -/
section
variable {ω : Type} {K : PySem.W.Frag} {O : OI ω} {G : Hp} {te : TE} {σ : L2.St} {l : List (D ω)}
abbrev rListOf (K : PySem.W.Frag) : List V → Hp → VK → Prop := fun xs H Q => ∃ p ys, xs = [V.ref p] ∧ (SqL K H p ys ∨ SqT K H p ys) ∧ ∀ l, H l = none → Q (.ref l) (upd H l (.lst ys))
theorem ed_listT (h : EvD K O te σ G (.tup l)) : EvD K O (tCB (rListOf K) (tCons te tNil)) σ G (.lst l) := fun H1 e Q k =>
  h H1 e _ fun v G2 H2 le a => by
    obtain ⟨p, vs, rfl, hs, as⟩ := at_tup.mp a
    exact ⟨p, vs, rfl, Or.inr (ex_t le.e hs), fun q hq => k _ (upd G2 q (.lst vs)) _ (le.trans (Le.new le.e hq)) (at_lst.mpr ⟨q, vs, rfl, upd_same, as.mono (Ex.new (none_of_ex le.e hq))⟩)⟩
theorem ed_listL (h : EvD K O te σ G (.lst l)) : EvD K O (tCB (rListOf K) (tCons te tNil)) σ G (.lst l) := fun H1 e Q k =>
  h H1 e _ fun v G2 H2 le a => by
    obtain ⟨p, vs, rfl, hs, as⟩ := at_lst.mp a
    exact ⟨p, vs, rfl, Or.inl (sq_of (le.e _ _ hs)), fun q hq => k _ (upd G2 q (.lst vs)) _ (le.trans (Le.new le.e hq)) (at_lst.mpr ⟨q, vs, rfl, upd_same, as.mono (Ex.new (none_of_ex le.e hq))⟩)⟩
theorem et_truT (h : EvD K O te σ G (.tup l)) : EvT (tTruK K te) σ G (!l.isEmpty) := fun H1 e Q q =>
  h H1 e _ fun v G2 H2 le a => by
    obtain ⟨p, vs, rfl, hs, as⟩ := at_tup.mp a
    refine ⟨!l.isEmpty, Or.inr (Or.inl ⟨vs, ex_t le.e hs, ?_⟩), q H2 le.h⟩
    have h1 := as.len
    cases vs <;> cases l <;> first | rfl | simp at h1
theorem et_truL (h : EvD K O te σ G (.lst l)) : EvT (tTruK K te) σ G (!l.isEmpty) := fun H1 e Q q =>
  h H1 e _ fun v G2 H2 le a => by
    obtain ⟨p, vs, rfl, hs, as⟩ := at_lst.mp a
    refine ⟨!l.isEmpty, Or.inl ⟨vs, sq_of (le.e _ _ hs), ?_⟩, q H2 le.h⟩
    have h1 := as.len
    cases vs <;> cases l <;> first | rfl | simp at h1
end
section
variable {X : Cx}
def rBoolT (K : PySem.W.Frag) : List V → Hp → VK → Prop := fun xs H Q => ∃ (a : Addr) (zs : List V), xs = [.ref a] ∧ SqT K H a zs ∧ Q (.bl (!zs.isEmpty)) H
theorem call_boolT (K : PySem.W.Frag) (hK : X.K = K := by rfl) : CallR X (.type "bool") (rBoolT K) := by
  subst hK
  intro pins s σ H xs us Q I r h
  obtain ⟨a, zs, rfl, hq, q⟩ := h
  obtain rfl := Vals.ref1 r
  obtain ⟨its, rv, pl, hz⟩ := I.tuple hq
  have hl := line63
  have hlen := rv.length
  refine bool_of (truthy_tuple pl (by simp only [List.size_toArray]; omega) ?_)
  exact ⟨.bl (!zs.isEmpty), H, I.tok _, by rw [isEmpty_of rv]; rfl, q⟩
end
theorem ev_boolT {ω : Type} {K : PySem.W.Frag} {O : OI ω} {G : Hp} {te : TE} {σ : L2.St} {l : List (D ω)} (h : EvD K O te σ G (.tup l)) : Ev (tCB (rBoolT K) (tCons te tNil)) σ G (.bl (!l.isEmpty)) := fun H1 e Q q =>
  h H1 e _ fun v G2 H2 le a => by
    obtain ⟨p, vs, rfl, hs, as⟩ := at_tup.mp a
    refine ⟨p, vs, rfl, ex_t le.e hs, ?_⟩
    have h1 := as.len
    have e2 : (!vs.isEmpty) = !l.isEmpty := by cases vs <;> cases l <;> first | rfl | simp at h1
    rw [e2]
    exact q H2 le.h
end SR
set_option maxRecDepth 100000
set_option maxHeartbeats 4000000
namespace SR
open PySem PySem.Spec PyProof.Rows L2 Evl
section
variable {K : PySem.W.Frag} {C : Addr} {G H : Hp} {te ta tb ti : TE} {σ : L2.St} {w : FilS} {t : TA}
/-- f.m(..), m no field -/
theorem ed_meth {R : List (D FilS) → D FilS → Prop} {m : Str} {ds : List (D FilS)} {d : D FilS} {E : XK} (ho : EvD K (FilO K C) te σ G (.obj w)) (ha : EvDA K (FilO K C) t σ G ds) (r : R (.obj w :: ds) d)
    (h1 : (m == "prime") = false := by decide +kernel) (h2 : (m == "pairs") = false := by decide +kernel) (h3 : (m == "coefficients") = false := by decide +kernel) : EvD K (FilO K C) (tMeth C m (SpD K (FilO K C) R) [] E te t) σ G d := fun H1 e Q k =>
  ho H1 e _ fun v G2 H2 l a => by
    obtain ⟨x, rfl, dx, tp, o, ts, kd, g1, g2, g3, g4, g5⟩ := at_obj.mp a
    refine ⟨x, dx, _, rfl, l.e _ _ g1, lkN h1 h2 h3, ha H2 ((e.trans l.h)) _ fun vs G3 H3 l3 as => ?_⟩
    have e2 : Ex G2 H3 := l.e.trans l3.h
    have e3 : Ex G2 (hun G3 G2) := hun_r l3.e e2
    refine ⟨hun G3 G2, .obj w :: ds, d, hun_ex l3.e e2, ?_, r, fun u G4 H4 l4 b => k u G4 H4 ⟨(l.h.trans l3.h).trans l4.h, (l.g.trans e3).trans l4.g, l4.e, fun y hg hh => ?_, fun y ps q => hun_t l3.t l.t y ps (l4.t y ps q)⟩ b⟩
    · rw [List.append_nil]
      exact atL_cons.mpr ⟨_, _, rfl, a.mono e3, as.mono hun_l⟩
    · have n2 := l.f y hg hh
      have h2' : H2 y ≠ none := fun z => hh (fresh_back l.h z)
      have h3' : H3 y ≠ none := fun z => h2' (fresh_back l3.h z)
      refine l4.f y ?_ h3'
      unfold hun
      rw [l3.f y hg h2']
      exact n2
theorem ed_lastT {ω : Type} {O : OI ω} {ds : List (D ω)} {c : D ω} (h : EvD K O te σ G (.tup ds)) (hi : Ev ti σ G (.int (-1))) (hc : ds[ds.length - 1]? = some c) : EvD K O (tOp (rIxT K) te ti) σ G c := fun H1 e Q k =>
  h H1 e _ fun v G2 H2 l a => hi H2 (e.trans l.h) _ fun H3 e3 => by
    obtain ⟨p, vs, rfl, hs, as⟩ := at_tup.mp a
    obtain ⟨x, hx, ax⟩ := as.get' hc
    have hl := as.len
    have hpos : 0 < ds.length := by
      have := (List.getElem?_eq_some_iff.mp hc).1
      omega
    refine ⟨p, vs, _, x, rfl, rfl, ex_t (l.e.trans e3) hs, ?_, k x G2 H3 (l.trans (Le.heap l.e e3)) ax⟩
    unfold atI ixN
    rw [if_neg (by decide), if_pos (by omega)]
    rw [← hl] at hx
    have e5 : ((-1 : Int) + (vs.length : Int)).toNat = vs.length - 1 := by omega
    show vs[((-1 : Int) + (vs.length : Int)).toNat]? = some x
    rw [e5]
    exact hx
theorem ev_neg1 : Ev (tUn (rU fun i => .int (-i)) (tC (.int 1))) σ G (.int (-1)) := ev_un ev_c ru_neg
end
section
variable {ω : Type} {K : PySem.W.Frag} {O : OI ω} {G : Hp} {td ty tx : TE} {σ : L2.St} {m : List (Int × Int)} {o z c : Int}
theorem ev_dget2D (h : EvD K O td σ G (.dic m)) (hy : Ev ty σ G (.int o)) (hx : Ev tx σ G (.int z)) : Ev (tDGet2 td ty tx) σ G (.int ((getI m o).getD z)) := fun H1 e Q q =>
  h H1 e _ fun v G2 H2 l a => by
    obtain ⟨d, rfl, hd⟩ := at_dic.mp a
    refine ⟨d, rfl, Or.inl ⟨kvI m, Or.inl (l.e _ _ hd)⟩, hy H2 (e.trans l.h) _ fun H3 e3 => hx H3 ((e.trans l.h).trans e3) _ fun H4 e4 => ⟨_, DGet.k (k := Sum.inl o) ((l.e.trans e3).trans e4 d _ hd), ?_⟩⟩
    rw [valV_kvI]
    have q' := q H4 ((l.h.trans e3).trans e4)
    cases hg : getI m o with
    | none => rw [hg] at q'; exact q'
    | some x => rw [hg] at q'; exact q'
theorem ev_dgetD (h : EvD K O td σ G (.dic m)) (hy : Ev ty σ G (.int o)) (hc : getI m o = some c) : Ev (tDGet td ty) σ G (.int c) := fun H1 e Q q =>
  h H1 e _ fun v G2 H2 l a => by
    obtain ⟨d, rfl, hd⟩ := at_dic.mp a
    refine hy H2 (e.trans l.h) _ fun H3 e3 => ⟨d, .int c, rfl, ?_, q H3 (l.h.trans e3)⟩
    have h1 := DGet.k (k := Sum.inl o) ((l.e.trans e3) d _ hd)
    rw [valV_kvI, hc] at h1
    exact h1
end
end SR
set_option maxRecDepth 100000
set_option maxHeartbeats 4000000
/-! The source of drawn numbers: a list that the law's helpers change; what stands beside it stays. -/
namespace SR
open PySem PySem.Spec PyProof.Rows L2 Evl
/-- from (G, H) to (G', H'), s and q may change -/
structure LeX (s q : Addr) (G H G' H' : Hp) : Prop where
  h : ∀ a o, a ≠ s → a ≠ q → H a = some o → H' a = some o
  g : Ex G G'
  e : Ex G' H'
  f : ∀ a, G a = none → H a ≠ none → G' a = none
  k : ∀ a, H a ≠ none → H' a ≠ none
  t : ∀ a ps, G' a = some (.tbl ps) → G a = some (.tbl ps)
section
variable {s q : Addr} {G H G1 H1 G2 H2 : Hp}
theorem Le.x (l : Le G H G1 H1) : LeX s q G H G1 H1 := ⟨fun a o _ _ e => l.h a o e, l.g, l.e, l.f, fun a h z => h (fresh_back l.h z), l.t⟩
theorem LeX.trans (a : LeX s q G H G1 H1) (b : LeX s q G1 H1 G2 H2) : LeX s q G H G2 H2 := ⟨fun x o n m e => b.h x o n m (a.h x o n m e), a.g.trans b.g, b.e, fun x hg hh => b.f x (a.f x hg hh) (a.k x hh), fun x h => b.k x (a.k x h), fun x ps h => a.t x ps (b.t x ps h)⟩
theorem LeX.refl (e : Ex G H) : LeX s q G H G H := (Le.refl e).x
theorem LeX.mutS (l : LeX s q G H G1 H1) {o : HO} (hg : G1 s = none) : LeX s q G H G1 (upd H1 s o) where
  h := fun a u n m e => by rw [upd_ne n]; exact l.h a u n m e
  g := l.g
  e := fun a u e => by rw [upd_ne (ne_of_none e hg)]; exact l.e a u e
  f := l.f
  t := l.t
  k := fun a h => by
    by_cases z : a = s
    · subst z; rw [upd_same]; exact fun z => nomatch z
    · rw [upd_ne z]; exact l.k a h
theorem LeX.mutQ (l : LeX s q G H G1 H1) {o : HO} (hg : G1 q = none) : LeX s q G H G1 (upd H1 q o) where
  h := fun a u n m e => by rw [upd_ne m]; exact l.h a u n m e
  g := l.g
  e := fun a u e => by rw [upd_ne (ne_of_none e hg)]; exact l.e a u e
  f := l.f
  t := l.t
  k := fun a h => by
    by_cases z : a = q
    · subst z; rw [upd_same]; exact fun z => nomatch z
    · rw [upd_ne z]; exact l.k a h
theorem LeX.gnone (l : LeX s q G H G1 H1) {p : Addr} (hg : G p = none) (hh : H p ≠ none) : G1 p = none := l.f p hg hh
theorem LeX.back (l : LeX s q G H G1 H1) {p : Addr} (h : H1 p = none) : H p = none := by
  cases e : H p with
  | none => rfl
  | some o => exact absurd h (l.k p (by rw [e]; exact fun z => nomatch z))
/-- an object filled since -/
theorem LeX.mut (l : LeX s q G H G1 H1) {p : Addr} {o : HO} (h : H p = none) (hg : G1 p = none) : LeX s q G H G1 (upd H1 p o) where
  h := fun a u n m e => by rw [upd_ne (ne_of_none e h)]; exact l.h a u n m e
  g := l.g
  e := fun a u e => by rw [upd_ne (ne_of_none e hg)]; exact l.e a u e
  f := l.f
  t := l.t
  k := fun a h' => by
    by_cases z : a = p
    · subst z; rw [upd_same]; exact fun z => nomatch z
    · rw [upd_ne z]; exact l.k a h'
theorem LeX.fix (e : Ex G H) (l : LeX s q G H G1 H1) {p : Addr} {o : HO} (h : H p = none) (h1 : H1 p = some o) (ht : NoTb o := by intro _ z; cases z) : LeX s q G H (upd G1 p o) H1 where
  h := l.h
  g := fun a u r => by
    by_cases z : a = p
    · subst z; rw [none_of_ex e h] at r; cases r
    · rw [upd_ne z]; exact l.g a u r
  e := fun a u r => by
    by_cases z : a = p
    · subst z; rw [upd_same] at r; rw [h1]; exact r
    · rw [upd_ne z] at r; exact l.e a u r
  f := fun a hg hh => by
    by_cases z : a = p
    · subst z; exact absurd h hh
    · rw [upd_ne z]; exact l.f a hg hh
  k := l.k
  t := fun a ps r => by
    by_cases z : a = p
    · subst z; rw [upd_same] at r; exact absurd (Option.some.inj r) (ht ps)
    · rw [upd_ne z] at r; exact l.t a ps r
end
/-- what the box holds: its great cells at q, a rest, its lesser cells, at most n draws done -/
structure Spr (H : Hp) (s q : Addr) (n : Nat) : Prop where
  ex : ∃ (cells rst : List Int) (r : Addr) (u m : Int), H s = some (.lst [.ref q, .int u, .ref r, .int m]) ∧ H q = some (.lst (cells.map V.int)) ∧ H r = some (.lst (rst.map V.int)) ∧ r ≠ s ∧ r ≠ q ∧ cells.length ≤ 63 ∧ rst.length ≤ 63 ∧ 0 ≤ m ∧ m ≤ n
theorem Spr.keep {s q : Addr} {n k : Nat} {H H' : Hp} (p : Spr H s q n) (h : ∀ a o, H a = some o → H' a = some o) (hn : n ≤ k) : Spr H' s q k := by
  obtain ⟨cells, rst, r, u, m, h1, h2, h3, h4, h5, h6, h7, h8, h9⟩ := p.ex
  exact ⟨cells, rst, r, u, m, h _ _ h1, h _ _ h2, h _ _ h3, h4, h5, h6, h7, h8, by omega⟩
theorem Spr.sne {s q : Addr} {n : Nat} {H : Hp} (p : Spr H s q n) : H s ≠ none := by
  obtain ⟨cells, rst, r, u, m, h1, _⟩ := p.ex
  rw [h1]; exact fun z => nomatch z
theorem Spr.qne {s q : Addr} {n : Nat} {H : Hp} (p : Spr H s q n) : H q ≠ none := by
  obtain ⟨cells, rst, r, u, m, h1, h2, _⟩ := p.ex
  rw [h2]; exact fun z => nomatch z
theorem Spr.ne {s q : Addr} {n : Nat} {H : Hp} (p : Spr H s q n) : s ≠ q := by
  obtain ⟨cells, rst, r, u, m, h1, h2, _⟩ := p.ex
  intro z
  subst z
  rw [h1] at h2
  have h3 := Option.some.inj h2
  injection h3 with h3
  cases cells with
  | nil => cases h3
  | cons c cs => simp at h3
/-- a def over the source and data: R tells which data may come -/
def SpX (K : PySem.W.Frag) {ω : Type} (O : OI ω) (add : Nat) (Pre : List (D ω) → Prop) (R : List (D ω) → D ω → Prop) : Sp := fun vs H Q _ => ∃ G s q n ds ws, vs = .ref s :: ws ∧ Ex G H ∧ G s = none ∧ G q = none ∧ Spr H s q n ∧ n + add ≤ 1000000 ∧ AtL K O G ds ws ∧ Pre ds ∧
  ∀ d v G2 H2, R ds d → LeX s q G H G2 H2 → Spr H2 s q (n + add) → At K O G2 d v → Q v H2
end SR
set_option maxRecDepth 100000
set_option maxHeartbeats 4000000
namespace SR
open PySem PySem.Spec PyProof.Rows L2 Evl
def topS (i : Nat) : Stmt := PySem.Challenge.pw_seenrows_k27_errors_made.main.body.getD i (.Pass ⟨0, 0, 0, 0⟩)
section
variable {ω : Type} {P : Program} {w : World} {K : PySem.W.Frag} {mg : Str → Option Value} {base : Heap} {O : OI ω} {Ty : ω → Value}
/-! ### is_int -/
def rIsInt : List (D ω) → D ω → Prop := fun ds r => ∃ d, ds = [d] ∧ r = .bl (dInt d)
/-! ### is_list -/
def rIsList : List (D ω) → D ω → Prop := fun ds r => ∃ d, ds = [d] ∧ r = .bl (dSeq d)
/-! ### is_prime -/
def primes : List Int := [2, 3, 5, 7]
def dPrime : D ω → Bool | .int i => primes.contains i | _ => false
def rIsPrime : List (D ω) → D ω → Prop := fun ds r => ∃ d, ds = [d] ∧ r = .bl (dPrime d)
/-! ### is_term -/
def dTerm : D ω → Bool
  | .lst [.int _, .int _] => true
  | .tup [.int _, .int _] => true
  | _ => false
def rIsTerm : List (D ω) → D ω → Prop := fun ds r => ∃ d, ds = [d] ∧ r = .bl (dTerm d)
theorem dTerm_of {d : D ω} (h : dTerm d = true) : ∃ i j, d = .lst [.int i, .int j] ∨ d = .tup [.int i, .int j] := by
  unfold dTerm at h
  split at h
  · exact ⟨_, _, Or.inl rfl⟩
  · exact ⟨_, _, Or.inr rfl⟩
  · cases h
theorem dItem_of {d : D ω} (hs : dSeq d = true) (hl : dLen d = 2) : ∃ a b, dItem d 0 = some a ∧ dItem d 1 = some b ∧ (dInt a && dInt b) = dTerm d := by
  cases d with
  | lst l =>
    match l, hl with
    | [a, b], _ => exact ⟨a, b, rfl, rfl, by cases a <;> cases b <;> rfl⟩
  | tup l =>
    match l, hl with
    | [a, b], _ => exact ⟨a, b, rfl, rfl, by cases a <;> cases b <;> rfl⟩
  | _ => cases hs
theorem dTerm_no {d : D ω} (h : dSeq d = true → dLen d ≠ 2) : dTerm d = false := by
  cases q : dTerm d with
  | false => rfl
  | true =>
    obtain ⟨i, j, rfl | rfl⟩ := dTerm_of q
    · exact absurd rfl (h rfl)
    · exact absurd rfl (h rfl)
/-! ### first_bad_term -/
def badL : List (D ω) → Option Nat
  | [] => none
  | d :: l => if dTerm d then (badL l).map (· + 1) else some 0
def dBad : D ω → D ω
  | .lst l => match badL l with | none => .non | some i => .int (i : Nat)
  | .tup l => match badL l with | none => .non | some i => .int (i : Nat)
  | _ => .int 0
def rBad : List (D ω) → D ω → Prop := fun ds r => ∃ d, ds = [d] ∧ r = dBad d
theorem badL_at : ∀ {l : List (D ω)} {i : Nat} {d : D ω}, l[i]? = some d → (∀ j, j < i → ∀ c, l[j]? = some c → dTerm c = true) → dTerm d = false → badL l = some i
  | [], i, d, h, _, _ => by simp at h
  | c :: l, 0, d, h, _, hb => by
    have e : c = d := Option.some.inj h
    subst e
    unfold badL
    rw [hb]
    rfl
  | c :: l, i + 1, d, h, hp, hb => by
    unfold badL
    rw [hp 0 (Nat.succ_pos _) c rfl, if_pos rfl, badL_at (i := i) (by simpa using h) (fun j hj c' hc => hp (j + 1) (by omega) c' (by simpa using hc)) hb]
    rfl
theorem badL_none : ∀ {l : List (D ω)}, (∀ c, c ∈ l → dTerm c = true) → badL l = none
  | [], _ => rfl
  | c :: l, h => by
    unfold badL
    rw [h c (List.mem_cons_self ..), if_pos rfl, badL_none fun c' hc => h c' (List.mem_cons_of_mem _ hc)]
    rfl
/-! ### collected -/
def rColl : List (D ω) → D ω → Prop := fun ds r => ∃ p d rows, ds = [.int p, d] ∧ 0 < p ∧ RowsD d rows ∧ rows.length ≤ 30000 ∧ r = .lst ((coll p rows).map pairD)
end
end SR

set_option maxRecDepth 100000
set_option maxHeartbeats 0
namespace SR
open PySem PySem.W L2
/-! ### what the top leaves, as far as it is asked -/
def KK0 : Params → PySem.W.Frag := fun P => [
  (nat_lit 2, ⟨.none, none, (.dict #[] 0), #[]⟩),
  (nat_lit 3, ⟨(.type "dict"), none, (.dict #[⟨PyData.keyHash P (Str.ofString "__name__"), (.str (Str.ofString "__name__") 165), (.str (Str.ofString "law_seenrows_k27_errors_made") 681)⟩, ⟨PyData.keyHash P (Str.ofString "__doc__"), (.str (Str.ofString "__doc__") 166), .none⟩, ⟨PyData.keyHash P (Str.ofString "__package__"), (.str (Str.ofString "__package__") 167), .none⟩, ⟨PyData.keyHash P (Str.ofString "__loader__"), (.str (Str.ofString "__loader__") 168), (.builtin "__main__.__loader__#opaque")⟩, ⟨PyData.keyHash P (Str.ofString "__spec__"), (.str (Str.ofString "__spec__") 169), .none⟩, ⟨PyData.keyHash P (Str.ofString "__annotations__"), (.str (Str.ofString "__annotations__") 170), (.ref 6)⟩, ⟨PyData.keyHash P (Str.ofString "__builtins__"), (.str (Str.ofString "__builtins__") 171), (.ref 4)⟩, ⟨PyData.keyHash P (Str.ofString "__file__"), (.str (Str.ofString "__file__") 173), (.str (Str.ofString "/claim/cut.py") 172)⟩, ⟨PyData.keyHash P (Str.ofString "__cached__"), (.str (Str.ofString "__cached__") 174), .none⟩, ⟨PyData.keyHash P (Str.ofString "SeenError"), (.str (Str.ofString "SeenError") 206), (.ref 24)⟩, ⟨PyData.keyHash P (Str.ofString "BadPrime"), (.str (Str.ofString "BadPrime") 231), (.ref 44)⟩, ⟨PyData.keyHash P (Str.ofString "BadTerm"), (.str (Str.ofString "BadTerm") 256), (.ref 63)⟩, ⟨PyData.keyHash P (Str.ofString "UnlikePrimes"), (.str (Str.ofString "UnlikePrimes") 272), (.ref 75)⟩, ⟨PyData.keyHash P (Str.ofString "ZeroFilter"), (.str (Str.ofString "ZeroFilter") 288), (.ref 87)⟩, ⟨PyData.keyHash P (Str.ofString "BadRule"), (.str (Str.ofString "BadRule") 304), (.ref 99)⟩, ⟨PyData.keyHash P (Str.ofString "BadDigits"), (.str (Str.ofString "BadDigits") 320), (.ref 111)⟩, ⟨PyData.keyHash P (Str.ofString "BadWidth"), (.str (Str.ofString "BadWidth") 345), (.ref 130)⟩, ⟨PyData.keyHash P (Str.ofString "BadRow"), (.str (Str.ofString "BadRow") 370), (.ref 149)⟩, ⟨PyData.keyHash P (Str.ofString "UnlikeTables"), (.str (Str.ofString "UnlikeTables") 386), (.ref 161)⟩, ⟨PyData.keyHash P (Str.ofString "BadSequences"), (.str (Str.ofString "BadSequences") 402), (.ref 173)⟩, ⟨PyData.keyHash P (Str.ofString "NoRows"), (.str (Str.ofString "NoRows") 418), (.ref 185)⟩, ⟨PyData.keyHash P (Str.ofString "NotCase"), (.str (Str.ofString "NotCase") 434), (.ref 197)⟩, ⟨PyData.keyHash P (Str.ofString "UnlikeWorlds"), (.str (Str.ofString "UnlikeWorlds") 450), (.ref 209)⟩, ⟨PyData.keyHash P (Str.ofString "NotTold"), (.str (Str.ofString "NotTold") 466), (.ref 221)⟩, ⟨PyData.keyHash P (Str.ofString "Impossible"), (.str (Str.ofString "Impossible") 482), (.ref 233)⟩, ⟨PyData.keyHash P (Str.ofString "BadCount"), (.str (Str.ofString "BadCount") 507), (.ref 252)⟩, ⟨PyData.keyHash P (Str.ofString "BadPlace"), (.str (Str.ofString "BadPlace") 532), (.ref 271)⟩, ⟨PyData.keyHash P (Str.ofString "BadPlaces"), (.str (Str.ofString "BadPlaces") 548), (.ref 283)⟩, ⟨PyData.keyHash P (Str.ofString "BadName"), (.str (Str.ofString "BadName") 573), (.ref 302)⟩, ⟨PyData.keyHash P (Str.ofString "NoName"), (.str (Str.ofString "NoName") 598), (.ref 321)⟩, ⟨PyData.keyHash P (Str.ofString "BadWord"), (.str (Str.ofString "BadWord") 623), (.ref 340)⟩, ⟨PyData.keyHash P (Str.ofString "NothingToUndo"), (.str (Str.ofString "NothingToUndo") 639), (.ref 352)⟩, ⟨PyData.keyHash P (Str.ofString "BadText"), (.str (Str.ofString "BadText") 655), (.ref 364)⟩, ⟨PyData.keyHash P (Str.ofString "BadLine"), (.str (Str.ofString "BadLine") 680), (.ref 383)⟩, ⟨PyData.keyHash P (Str.ofString "_law_box"), (.str (Str.ofString "_law_box") 688), (.ref 390)⟩, ⟨PyData.keyHash P (Str.ofString "_law_take"), (.str (Str.ofString "_law_take") 700), (.ref 397)⟩, ⟨PyData.keyHash P (Str.ofString "_law_pick"), (.str (Str.ofString "_law_pick") 708), (.ref 404)⟩, ⟨PyData.keyHash P (Str.ofString "_law_with_fields"), (.str (Str.ofString "_law_with_fields") 716), (.ref 411)⟩, ⟨PyData.keyHash P (Str.ofString "_law_fields"), (.str (Str.ofString "_law_fields") 724), (.ref 418)⟩, ⟨PyData.keyHash P (Str.ofString "_law_plain_ones"), (.str (Str.ofString "_law_plain_ones") 731), (.ref 425)⟩, ⟨PyData.keyHash P (Str.ofString "_law_classes"), (.str (Str.ofString "_law_classes") 739), (.ref 432)⟩, ⟨PyData.keyHash P (Str.ofString "law"), (.str (Str.ofString "law") 745), (.ref 437)⟩] 42), #[]⟩),
  (nat_lit 15, ⟨(.type "tuple"), none, (.seq #[(.type "ValueError")] 0), #[]⟩),
  (nat_lit 23, ⟨(.type "dict"), none, (.dict #[⟨PyData.keyHash P (Str.ofString "__module__"), (.str (Str.ofString "__module__") 196), (.str (Str.ofString "seenrows.errors") 187)⟩, ⟨PyData.keyHash P (Str.ofString "__firstlineno__"), (.str (Str.ofString "__firstlineno__") 200), (.int 2 199)⟩, ⟨PyData.keyHash P (Str.ofString "__static_attributes__"), (.str (Str.ofString "__static_attributes__") 201), (.ref 22)⟩, ⟨PyData.keyHash P (Str.ofString "__weakref__"), (.str (Str.ofString "__weakref__") 203), (.ref 25)⟩, ⟨PyData.keyHash P (Str.ofString "__doc__"), (.str (Str.ofString "__doc__") 204), .none⟩] 3), #[]⟩),
  (nat_lit 24, ⟨(.type "type"), none, (.cls ⟨(Str.ofString "SeenError"), [(.type "ValueError")], [(.ref 24), (.type "ValueError"), (.type "Exception"), (.type "BaseException"), (.type "object")], 23, (Str.ofString "SeenError"), true, [], [(.ref 44), (.ref 63), (.ref 75), (.ref 87), (.ref 99), (.ref 111), (.ref 130), (.ref 149), (.ref 161), (.ref 173), (.ref 185), (.ref 197), (.ref 209), (.ref 221), (.ref 233), (.ref 252), (.ref 271), (.ref 283), (.ref 302), (.ref 321), (.ref 340), (.ref 352), (.ref 364), (.ref 383)], false, none, false⟩), #[(some (.ref 15)), none, (some (.str (Str.ofString "SeenError") 189)), (some (.str (Str.ofString "SeenError") 197)), (some (.builtin "ValueError.__new__")), (some (.bool true))]⟩),
  (nat_lit 28, ⟨(.type "tuple"), none, (.seq #[(.ref 24)] 0), #[]⟩),
  (nat_lit 40, ⟨(.type "code"), none, (.fields #[(.str (Str.ofString "__init__") 219), (.str (Str.ofString "BadPrime.__init__") 220), (.str (Str.ofString "/claim/cut.py") 221), (.int 6 0), (.int 2 0), (.int 0 0), (.int 0 0), (.int 3 0), (.ref 35), (.bool true), (.int 181 0), (.ref 36), .none, (.ref 37), (.ref 38), (.ref 39), (.int 224 0), (.int 6 0), (.str (Str.ofString "/claim/cut.py") 225)]), #[]⟩),
  (nat_lit 41, ⟨(.type "function"), none, (.func (PySem.W.fnOf (Str.ofString "__init__") (Str.ofString "BadPrime.__init__") (defArgs (inClass (topS 2) 0)) (defBody (inClass (topS 2) 0)) (defScope (inClass (topS 2) 0)) .none .none .none (.str (Str.ofString "seenrows.errors") 187) none (.ref 40) .none)), #[]⟩),
  (nat_lit 43, ⟨(.type "dict"), none, (.dict #[⟨PyData.keyHash P (Str.ofString "__module__"), (.str (Str.ofString "__module__") 214), (.str (Str.ofString "seenrows.errors") 187)⟩, ⟨PyData.keyHash P (Str.ofString "__firstlineno__"), (.str (Str.ofString "__firstlineno__") 218), (.int 4 217)⟩, ⟨PyData.keyHash P (Str.ofString "__init__"), (.str (Str.ofString "__init__") 226), (.ref 41)⟩, ⟨PyData.keyHash P (Str.ofString "__static_attributes__"), (.str (Str.ofString "__static_attributes__") 228), (.ref 42)⟩, ⟨PyData.keyHash P (Str.ofString "__doc__"), (.str (Str.ofString "__doc__") 229), .none⟩] 2), #[]⟩),
  (nat_lit 44, ⟨(.type "type"), none, (.cls ⟨(Str.ofString "BadPrime"), [(.ref 24)], [(.ref 44), (.ref 24), (.type "ValueError"), (.type "Exception"), (.type "BaseException"), (.type "object")], 43, (Str.ofString "BadPrime"), true, [], [], false, none, false⟩), #[(some (.ref 28)), none, (some (.str (Str.ofString "BadPrime") 207)), (some (.str (Str.ofString "BadPrime") 215)), (some (.builtin "ValueError.__new__")), (some (.bool true))]⟩),
  (nat_lit 47, ⟨(.type "tuple"), none, (.seq #[(.ref 24)] 0), #[]⟩),
  (nat_lit 59, ⟨(.type "code"), none, (.fields #[(.str (Str.ofString "__init__") 244), (.str (Str.ofString "BadTerm.__init__") 245), (.str (Str.ofString "/claim/cut.py") 246), (.int 10 0), (.int 2 0), (.int 0 0), (.int 0 0), (.int 3 0), (.ref 54), (.bool true), (.int 181 0), (.ref 55), .none, (.ref 56), (.ref 57), (.ref 58), (.int 249 0), (.int 10 0), (.str (Str.ofString "/claim/cut.py") 250)]), #[]⟩),
  (nat_lit 60, ⟨(.type "function"), none, (.func (PySem.W.fnOf (Str.ofString "__init__") (Str.ofString "BadTerm.__init__") (defArgs (inClass (topS 3) 0)) (defBody (inClass (topS 3) 0)) (defScope (inClass (topS 3) 0)) .none .none .none (.str (Str.ofString "seenrows.errors") 187) none (.ref 59) .none)), #[]⟩),
  (nat_lit 62, ⟨(.type "dict"), none, (.dict #[⟨PyData.keyHash P (Str.ofString "__module__"), (.str (Str.ofString "__module__") 239), (.str (Str.ofString "seenrows.errors") 187)⟩, ⟨PyData.keyHash P (Str.ofString "__firstlineno__"), (.str (Str.ofString "__firstlineno__") 243), (.int 8 242)⟩, ⟨PyData.keyHash P (Str.ofString "__init__"), (.str (Str.ofString "__init__") 251), (.ref 60)⟩, ⟨PyData.keyHash P (Str.ofString "__static_attributes__"), (.str (Str.ofString "__static_attributes__") 253), (.ref 61)⟩, ⟨PyData.keyHash P (Str.ofString "__doc__"), (.str (Str.ofString "__doc__") 254), .none⟩] 2), #[]⟩),
  (nat_lit 63, ⟨(.type "type"), none, (.cls ⟨(Str.ofString "BadTerm"), [(.ref 24)], [(.ref 63), (.ref 24), (.type "ValueError"), (.type "Exception"), (.type "BaseException"), (.type "object")], 62, (Str.ofString "BadTerm"), true, [], [], false, none, false⟩), #[(some (.ref 47)), none, (some (.str (Str.ofString "BadTerm") 232)), (some (.str (Str.ofString "BadTerm") 240)), (some (.builtin "ValueError.__new__")), (some (.bool true))]⟩),
  (nat_lit 66, ⟨(.type "tuple"), none, (.seq #[(.ref 24)] 0), #[]⟩),
  (nat_lit 74, ⟨(.type "dict"), none, (.dict #[⟨PyData.keyHash P (Str.ofString "__module__"), (.str (Str.ofString "__module__") 264), (.str (Str.ofString "seenrows.errors") 187)⟩, ⟨PyData.keyHash P (Str.ofString "__firstlineno__"), (.str (Str.ofString "__firstlineno__") 268), (.int 12 267)⟩, ⟨PyData.keyHash P (Str.ofString "__static_attributes__"), (.str (Str.ofString "__static_attributes__") 269), (.ref 73)⟩, ⟨PyData.keyHash P (Str.ofString "__doc__"), (.str (Str.ofString "__doc__") 270), .none⟩] 2), #[]⟩),
  (nat_lit 75, ⟨(.type "type"), none, (.cls ⟨(Str.ofString "UnlikePrimes"), [(.ref 24)], [(.ref 75), (.ref 24), (.type "ValueError"), (.type "Exception"), (.type "BaseException"), (.type "object")], 74, (Str.ofString "UnlikePrimes"), true, [], [], false, none, false⟩), #[(some (.ref 66)), none, (some (.str (Str.ofString "UnlikePrimes") 257)), (some (.str (Str.ofString "UnlikePrimes") 265)), (some (.builtin "ValueError.__new__")), (some (.bool true))]⟩),
  (nat_lit 78, ⟨(.type "tuple"), none, (.seq #[(.ref 24)] 0), #[]⟩),
  (nat_lit 86, ⟨(.type "dict"), none, (.dict #[⟨PyData.keyHash P (Str.ofString "__module__"), (.str (Str.ofString "__module__") 280), (.str (Str.ofString "seenrows.errors") 187)⟩, ⟨PyData.keyHash P (Str.ofString "__firstlineno__"), (.str (Str.ofString "__firstlineno__") 284), (.int 14 283)⟩, ⟨PyData.keyHash P (Str.ofString "__static_attributes__"), (.str (Str.ofString "__static_attributes__") 285), (.ref 85)⟩, ⟨PyData.keyHash P (Str.ofString "__doc__"), (.str (Str.ofString "__doc__") 286), .none⟩] 2), #[]⟩),
  (nat_lit 87, ⟨(.type "type"), none, (.cls ⟨(Str.ofString "ZeroFilter"), [(.ref 24)], [(.ref 87), (.ref 24), (.type "ValueError"), (.type "Exception"), (.type "BaseException"), (.type "object")], 86, (Str.ofString "ZeroFilter"), true, [], [], false, none, false⟩), #[(some (.ref 78)), none, (some (.str (Str.ofString "ZeroFilter") 273)), (some (.str (Str.ofString "ZeroFilter") 281)), (some (.builtin "ValueError.__new__")), (some (.bool true))]⟩),
  (nat_lit 90, ⟨(.type "tuple"), none, (.seq #[(.ref 24)] 0), #[]⟩),
  (nat_lit 98, ⟨(.type "dict"), none, (.dict #[⟨PyData.keyHash P (Str.ofString "__module__"), (.str (Str.ofString "__module__") 296), (.str (Str.ofString "seenrows.errors") 187)⟩, ⟨PyData.keyHash P (Str.ofString "__firstlineno__"), (.str (Str.ofString "__firstlineno__") 300), (.int 16 299)⟩, ⟨PyData.keyHash P (Str.ofString "__static_attributes__"), (.str (Str.ofString "__static_attributes__") 301), (.ref 97)⟩, ⟨PyData.keyHash P (Str.ofString "__doc__"), (.str (Str.ofString "__doc__") 302), .none⟩] 2), #[]⟩),
  (nat_lit 99, ⟨(.type "type"), none, (.cls ⟨(Str.ofString "BadRule"), [(.ref 24)], [(.ref 99), (.ref 24), (.type "ValueError"), (.type "Exception"), (.type "BaseException"), (.type "object")], 98, (Str.ofString "BadRule"), true, [], [], false, none, false⟩), #[(some (.ref 90)), none, (some (.str (Str.ofString "BadRule") 289)), (some (.str (Str.ofString "BadRule") 297)), (some (.builtin "ValueError.__new__")), (some (.bool true))]⟩),
  (nat_lit 102, ⟨(.type "tuple"), none, (.seq #[(.ref 24)] 0), #[]⟩),
  (nat_lit 110, ⟨(.type "dict"), none, (.dict #[⟨PyData.keyHash P (Str.ofString "__module__"), (.str (Str.ofString "__module__") 312), (.str (Str.ofString "seenrows.errors") 187)⟩, ⟨PyData.keyHash P (Str.ofString "__firstlineno__"), (.str (Str.ofString "__firstlineno__") 316), (.int 18 315)⟩, ⟨PyData.keyHash P (Str.ofString "__static_attributes__"), (.str (Str.ofString "__static_attributes__") 317), (.ref 109)⟩, ⟨PyData.keyHash P (Str.ofString "__doc__"), (.str (Str.ofString "__doc__") 318), .none⟩] 2), #[]⟩),
  (nat_lit 111, ⟨(.type "type"), none, (.cls ⟨(Str.ofString "BadDigits"), [(.ref 24)], [(.ref 111), (.ref 24), (.type "ValueError"), (.type "Exception"), (.type "BaseException"), (.type "object")], 110, (Str.ofString "BadDigits"), true, [], [], false, none, false⟩), #[(some (.ref 102)), none, (some (.str (Str.ofString "BadDigits") 305)), (some (.str (Str.ofString "BadDigits") 313)), (some (.builtin "ValueError.__new__")), (some (.bool true))]⟩),
  (nat_lit 114, ⟨(.type "tuple"), none, (.seq #[(.ref 24)] 0), #[]⟩),
  (nat_lit 126, ⟨(.type "code"), none, (.fields #[(.str (Str.ofString "__init__") 333), (.str (Str.ofString "BadWidth.__init__") 334), (.str (Str.ofString "/claim/cut.py") 335), (.int 22 0), (.int 2 0), (.int 0 0), (.int 0 0), (.int 3 0), (.ref 121), (.bool true), (.int 181 0), (.ref 122), .none, (.ref 123), (.ref 124), (.ref 125), (.int 338 0), (.int 22 0), (.str (Str.ofString "/claim/cut.py") 339)]), #[]⟩),
  (nat_lit 127, ⟨(.type "function"), none, (.func (PySem.W.fnOf (Str.ofString "__init__") (Str.ofString "BadWidth.__init__") (defArgs (inClass (topS 8) 0)) (defBody (inClass (topS 8) 0)) (defScope (inClass (topS 8) 0)) .none .none .none (.str (Str.ofString "seenrows.errors") 187) none (.ref 126) .none)), #[]⟩),
  (nat_lit 129, ⟨(.type "dict"), none, (.dict #[⟨PyData.keyHash P (Str.ofString "__module__"), (.str (Str.ofString "__module__") 328), (.str (Str.ofString "seenrows.errors") 187)⟩, ⟨PyData.keyHash P (Str.ofString "__firstlineno__"), (.str (Str.ofString "__firstlineno__") 332), (.int 20 331)⟩, ⟨PyData.keyHash P (Str.ofString "__init__"), (.str (Str.ofString "__init__") 340), (.ref 127)⟩, ⟨PyData.keyHash P (Str.ofString "__static_attributes__"), (.str (Str.ofString "__static_attributes__") 342), (.ref 128)⟩, ⟨PyData.keyHash P (Str.ofString "__doc__"), (.str (Str.ofString "__doc__") 343), .none⟩] 2), #[]⟩),
  (nat_lit 130, ⟨(.type "type"), none, (.cls ⟨(Str.ofString "BadWidth"), [(.ref 24)], [(.ref 130), (.ref 24), (.type "ValueError"), (.type "Exception"), (.type "BaseException"), (.type "object")], 129, (Str.ofString "BadWidth"), true, [], [], false, none, false⟩), #[(some (.ref 114)), none, (some (.str (Str.ofString "BadWidth") 321)), (some (.str (Str.ofString "BadWidth") 329)), (some (.builtin "ValueError.__new__")), (some (.bool true))]⟩),
  (nat_lit 133, ⟨(.type "tuple"), none, (.seq #[(.ref 24)] 0), #[]⟩),
  (nat_lit 145, ⟨(.type "code"), none, (.fields #[(.str (Str.ofString "__init__") 358), (.str (Str.ofString "BadRow.__init__") 359), (.str (Str.ofString "/claim/cut.py") 360), (.int 26 0), (.int 2 0), (.int 0 0), (.int 0 0), (.int 3 0), (.ref 140), (.bool true), (.int 181 0), (.ref 141), .none, (.ref 142), (.ref 143), (.ref 144), (.int 363 0), (.int 26 0), (.str (Str.ofString "/claim/cut.py") 364)]), #[]⟩),
  (nat_lit 146, ⟨(.type "function"), none, (.func (PySem.W.fnOf (Str.ofString "__init__") (Str.ofString "BadRow.__init__") (defArgs (inClass (topS 9) 0)) (defBody (inClass (topS 9) 0)) (defScope (inClass (topS 9) 0)) .none .none .none (.str (Str.ofString "seenrows.errors") 187) none (.ref 145) .none)), #[]⟩),
  (nat_lit 148, ⟨(.type "dict"), none, (.dict #[⟨PyData.keyHash P (Str.ofString "__module__"), (.str (Str.ofString "__module__") 353), (.str (Str.ofString "seenrows.errors") 187)⟩, ⟨PyData.keyHash P (Str.ofString "__firstlineno__"), (.str (Str.ofString "__firstlineno__") 357), (.int 24 356)⟩, ⟨PyData.keyHash P (Str.ofString "__init__"), (.str (Str.ofString "__init__") 365), (.ref 146)⟩, ⟨PyData.keyHash P (Str.ofString "__static_attributes__"), (.str (Str.ofString "__static_attributes__") 367), (.ref 147)⟩, ⟨PyData.keyHash P (Str.ofString "__doc__"), (.str (Str.ofString "__doc__") 368), .none⟩] 2), #[]⟩),
  (nat_lit 149, ⟨(.type "type"), none, (.cls ⟨(Str.ofString "BadRow"), [(.ref 24)], [(.ref 149), (.ref 24), (.type "ValueError"), (.type "Exception"), (.type "BaseException"), (.type "object")], 148, (Str.ofString "BadRow"), true, [], [], false, none, false⟩), #[(some (.ref 133)), none, (some (.str (Str.ofString "BadRow") 346)), (some (.str (Str.ofString "BadRow") 354)), (some (.builtin "ValueError.__new__")), (some (.bool true))]⟩),
  (nat_lit 152, ⟨(.type "tuple"), none, (.seq #[(.ref 24)] 0), #[]⟩),
  (nat_lit 160, ⟨(.type "dict"), none, (.dict #[⟨PyData.keyHash P (Str.ofString "__module__"), (.str (Str.ofString "__module__") 378), (.str (Str.ofString "seenrows.errors") 187)⟩, ⟨PyData.keyHash P (Str.ofString "__firstlineno__"), (.str (Str.ofString "__firstlineno__") 382), (.int 28 381)⟩, ⟨PyData.keyHash P (Str.ofString "__static_attributes__"), (.str (Str.ofString "__static_attributes__") 383), (.ref 159)⟩, ⟨PyData.keyHash P (Str.ofString "__doc__"), (.str (Str.ofString "__doc__") 384), .none⟩] 2), #[]⟩),
  (nat_lit 161, ⟨(.type "type"), none, (.cls ⟨(Str.ofString "UnlikeTables"), [(.ref 24)], [(.ref 161), (.ref 24), (.type "ValueError"), (.type "Exception"), (.type "BaseException"), (.type "object")], 160, (Str.ofString "UnlikeTables"), true, [], [], false, none, false⟩), #[(some (.ref 152)), none, (some (.str (Str.ofString "UnlikeTables") 371)), (some (.str (Str.ofString "UnlikeTables") 379)), (some (.builtin "ValueError.__new__")), (some (.bool true))]⟩),
  (nat_lit 164, ⟨(.type "tuple"), none, (.seq #[(.ref 24)] 0), #[]⟩),
  (nat_lit 172, ⟨(.type "dict"), none, (.dict #[⟨PyData.keyHash P (Str.ofString "__module__"), (.str (Str.ofString "__module__") 394), (.str (Str.ofString "seenrows.errors") 187)⟩, ⟨PyData.keyHash P (Str.ofString "__firstlineno__"), (.str (Str.ofString "__firstlineno__") 398), (.int 30 397)⟩, ⟨PyData.keyHash P (Str.ofString "__static_attributes__"), (.str (Str.ofString "__static_attributes__") 399), (.ref 171)⟩, ⟨PyData.keyHash P (Str.ofString "__doc__"), (.str (Str.ofString "__doc__") 400), .none⟩] 2), #[]⟩),
  (nat_lit 173, ⟨(.type "type"), none, (.cls ⟨(Str.ofString "BadSequences"), [(.ref 24)], [(.ref 173), (.ref 24), (.type "ValueError"), (.type "Exception"), (.type "BaseException"), (.type "object")], 172, (Str.ofString "BadSequences"), true, [], [], false, none, false⟩), #[(some (.ref 164)), none, (some (.str (Str.ofString "BadSequences") 387)), (some (.str (Str.ofString "BadSequences") 395)), (some (.builtin "ValueError.__new__")), (some (.bool true))]⟩),
  (nat_lit 176, ⟨(.type "tuple"), none, (.seq #[(.ref 24)] 0), #[]⟩),
  (nat_lit 184, ⟨(.type "dict"), none, (.dict #[⟨PyData.keyHash P (Str.ofString "__module__"), (.str (Str.ofString "__module__") 410), (.str (Str.ofString "seenrows.errors") 187)⟩, ⟨PyData.keyHash P (Str.ofString "__firstlineno__"), (.str (Str.ofString "__firstlineno__") 414), (.int 32 413)⟩, ⟨PyData.keyHash P (Str.ofString "__static_attributes__"), (.str (Str.ofString "__static_attributes__") 415), (.ref 183)⟩, ⟨PyData.keyHash P (Str.ofString "__doc__"), (.str (Str.ofString "__doc__") 416), .none⟩] 2), #[]⟩),
  (nat_lit 185, ⟨(.type "type"), none, (.cls ⟨(Str.ofString "NoRows"), [(.ref 24)], [(.ref 185), (.ref 24), (.type "ValueError"), (.type "Exception"), (.type "BaseException"), (.type "object")], 184, (Str.ofString "NoRows"), true, [], [], false, none, false⟩), #[(some (.ref 176)), none, (some (.str (Str.ofString "NoRows") 403)), (some (.str (Str.ofString "NoRows") 411)), (some (.builtin "ValueError.__new__")), (some (.bool true))]⟩),
  (nat_lit 188, ⟨(.type "tuple"), none, (.seq #[(.ref 24)] 0), #[]⟩),
  (nat_lit 196, ⟨(.type "dict"), none, (.dict #[⟨PyData.keyHash P (Str.ofString "__module__"), (.str (Str.ofString "__module__") 426), (.str (Str.ofString "seenrows.errors") 187)⟩, ⟨PyData.keyHash P (Str.ofString "__firstlineno__"), (.str (Str.ofString "__firstlineno__") 430), (.int 34 429)⟩, ⟨PyData.keyHash P (Str.ofString "__static_attributes__"), (.str (Str.ofString "__static_attributes__") 431), (.ref 195)⟩, ⟨PyData.keyHash P (Str.ofString "__doc__"), (.str (Str.ofString "__doc__") 432), .none⟩] 2), #[]⟩),
  (nat_lit 197, ⟨(.type "type"), none, (.cls ⟨(Str.ofString "NotCase"), [(.ref 24)], [(.ref 197), (.ref 24), (.type "ValueError"), (.type "Exception"), (.type "BaseException"), (.type "object")], 196, (Str.ofString "NotCase"), true, [], [], false, none, false⟩), #[(some (.ref 188)), none, (some (.str (Str.ofString "NotCase") 419)), (some (.str (Str.ofString "NotCase") 427)), (some (.builtin "ValueError.__new__")), (some (.bool true))]⟩),
  (nat_lit 200, ⟨(.type "tuple"), none, (.seq #[(.ref 24)] 0), #[]⟩),
  (nat_lit 208, ⟨(.type "dict"), none, (.dict #[⟨PyData.keyHash P (Str.ofString "__module__"), (.str (Str.ofString "__module__") 442), (.str (Str.ofString "seenrows.errors") 187)⟩, ⟨PyData.keyHash P (Str.ofString "__firstlineno__"), (.str (Str.ofString "__firstlineno__") 446), (.int 36 445)⟩, ⟨PyData.keyHash P (Str.ofString "__static_attributes__"), (.str (Str.ofString "__static_attributes__") 447), (.ref 207)⟩, ⟨PyData.keyHash P (Str.ofString "__doc__"), (.str (Str.ofString "__doc__") 448), .none⟩] 2), #[]⟩),
  (nat_lit 209, ⟨(.type "type"), none, (.cls ⟨(Str.ofString "UnlikeWorlds"), [(.ref 24)], [(.ref 209), (.ref 24), (.type "ValueError"), (.type "Exception"), (.type "BaseException"), (.type "object")], 208, (Str.ofString "UnlikeWorlds"), true, [], [], false, none, false⟩), #[(some (.ref 200)), none, (some (.str (Str.ofString "UnlikeWorlds") 435)), (some (.str (Str.ofString "UnlikeWorlds") 443)), (some (.builtin "ValueError.__new__")), (some (.bool true))]⟩),
  (nat_lit 212, ⟨(.type "tuple"), none, (.seq #[(.ref 24)] 0), #[]⟩),
  (nat_lit 220, ⟨(.type "dict"), none, (.dict #[⟨PyData.keyHash P (Str.ofString "__module__"), (.str (Str.ofString "__module__") 458), (.str (Str.ofString "seenrows.errors") 187)⟩, ⟨PyData.keyHash P (Str.ofString "__firstlineno__"), (.str (Str.ofString "__firstlineno__") 462), (.int 38 461)⟩, ⟨PyData.keyHash P (Str.ofString "__static_attributes__"), (.str (Str.ofString "__static_attributes__") 463), (.ref 219)⟩, ⟨PyData.keyHash P (Str.ofString "__doc__"), (.str (Str.ofString "__doc__") 464), .none⟩] 2), #[]⟩),
  (nat_lit 221, ⟨(.type "type"), none, (.cls ⟨(Str.ofString "NotTold"), [(.ref 24)], [(.ref 221), (.ref 24), (.type "ValueError"), (.type "Exception"), (.type "BaseException"), (.type "object")], 220, (Str.ofString "NotTold"), true, [], [], false, none, false⟩), #[(some (.ref 212)), none, (some (.str (Str.ofString "NotTold") 451)), (some (.str (Str.ofString "NotTold") 459)), (some (.builtin "ValueError.__new__")), (some (.bool true))]⟩),
  (nat_lit 224, ⟨(.type "tuple"), none, (.seq #[(.ref 24)] 0), #[]⟩),
  (nat_lit 232, ⟨(.type "dict"), none, (.dict #[⟨PyData.keyHash P (Str.ofString "__module__"), (.str (Str.ofString "__module__") 474), (.str (Str.ofString "seenrows.errors") 187)⟩, ⟨PyData.keyHash P (Str.ofString "__firstlineno__"), (.str (Str.ofString "__firstlineno__") 478), (.int 40 477)⟩, ⟨PyData.keyHash P (Str.ofString "__static_attributes__"), (.str (Str.ofString "__static_attributes__") 479), (.ref 231)⟩, ⟨PyData.keyHash P (Str.ofString "__doc__"), (.str (Str.ofString "__doc__") 480), .none⟩] 2), #[]⟩),
  (nat_lit 233, ⟨(.type "type"), none, (.cls ⟨(Str.ofString "Impossible"), [(.ref 24)], [(.ref 233), (.ref 24), (.type "ValueError"), (.type "Exception"), (.type "BaseException"), (.type "object")], 232, (Str.ofString "Impossible"), true, [], [], false, none, false⟩), #[(some (.ref 224)), none, (some (.str (Str.ofString "Impossible") 467)), (some (.str (Str.ofString "Impossible") 475)), (some (.builtin "ValueError.__new__")), (some (.bool true))]⟩),
  (nat_lit 236, ⟨(.type "tuple"), none, (.seq #[(.ref 24)] 0), #[]⟩),
  (nat_lit 248, ⟨(.type "code"), none, (.fields #[(.str (Str.ofString "__init__") 495), (.str (Str.ofString "BadCount.__init__") 496), (.str (Str.ofString "/claim/cut.py") 497), (.int 44 0), (.int 2 0), (.int 0 0), (.int 0 0), (.int 3 0), (.ref 243), (.bool true), (.int 181 0), (.ref 244), .none, (.ref 245), (.ref 246), (.ref 247), (.int 500 0), (.int 44 0), (.str (Str.ofString "/claim/cut.py") 501)]), #[]⟩)]
def KA0 : List Addr := [nat_lit 2, nat_lit 3, nat_lit 15, nat_lit 23, nat_lit 24, nat_lit 28, nat_lit 40, nat_lit 41, nat_lit 43, nat_lit 44, nat_lit 47, nat_lit 59, nat_lit 60, nat_lit 62, nat_lit 63, nat_lit 66, nat_lit 74, nat_lit 75, nat_lit 78, nat_lit 86, nat_lit 87, nat_lit 90, nat_lit 98, nat_lit 99, nat_lit 102, nat_lit 110, nat_lit 111, nat_lit 114, nat_lit 126, nat_lit 127, nat_lit 129, nat_lit 130, nat_lit 133, nat_lit 145, nat_lit 146, nat_lit 148, nat_lit 149, nat_lit 152, nat_lit 160, nat_lit 161, nat_lit 164, nat_lit 172, nat_lit 173, nat_lit 176, nat_lit 184, nat_lit 185, nat_lit 188, nat_lit 196, nat_lit 197, nat_lit 200, nat_lit 208, nat_lit 209, nat_lit 212, nat_lit 220, nat_lit 221, nat_lit 224, nat_lit 232, nat_lit 233, nat_lit 236, nat_lit 248]
def KK1 : Params → PySem.W.Frag := fun P => [
  (nat_lit 249, ⟨(.type "function"), none, (.func (PySem.W.fnOf (Str.ofString "__init__") (Str.ofString "BadCount.__init__") (defArgs (inClass (topS 17) 0)) (defBody (inClass (topS 17) 0)) (defScope (inClass (topS 17) 0)) .none .none .none (.str (Str.ofString "seenrows.errors") 187) none (.ref 248) .none)), #[]⟩),
  (nat_lit 251, ⟨(.type "dict"), none, (.dict #[⟨PyData.keyHash P (Str.ofString "__module__"), (.str (Str.ofString "__module__") 490), (.str (Str.ofString "seenrows.errors") 187)⟩, ⟨PyData.keyHash P (Str.ofString "__firstlineno__"), (.str (Str.ofString "__firstlineno__") 494), (.int 42 493)⟩, ⟨PyData.keyHash P (Str.ofString "__init__"), (.str (Str.ofString "__init__") 502), (.ref 249)⟩, ⟨PyData.keyHash P (Str.ofString "__static_attributes__"), (.str (Str.ofString "__static_attributes__") 504), (.ref 250)⟩, ⟨PyData.keyHash P (Str.ofString "__doc__"), (.str (Str.ofString "__doc__") 505), .none⟩] 2), #[]⟩),
  (nat_lit 252, ⟨(.type "type"), none, (.cls ⟨(Str.ofString "BadCount"), [(.ref 24)], [(.ref 252), (.ref 24), (.type "ValueError"), (.type "Exception"), (.type "BaseException"), (.type "object")], 251, (Str.ofString "BadCount"), true, [], [], false, none, false⟩), #[(some (.ref 236)), none, (some (.str (Str.ofString "BadCount") 483)), (some (.str (Str.ofString "BadCount") 491)), (some (.builtin "ValueError.__new__")), (some (.bool true))]⟩),
  (nat_lit 255, ⟨(.type "tuple"), none, (.seq #[(.ref 24)] 0), #[]⟩),
  (nat_lit 267, ⟨(.type "code"), none, (.fields #[(.str (Str.ofString "__init__") 520), (.str (Str.ofString "BadPlace.__init__") 521), (.str (Str.ofString "/claim/cut.py") 522), (.int 48 0), (.int 2 0), (.int 0 0), (.int 0 0), (.int 3 0), (.ref 262), (.bool true), (.int 181 0), (.ref 263), .none, (.ref 264), (.ref 265), (.ref 266), (.int 525 0), (.int 48 0), (.str (Str.ofString "/claim/cut.py") 526)]), #[]⟩),
  (nat_lit 268, ⟨(.type "function"), none, (.func (PySem.W.fnOf (Str.ofString "__init__") (Str.ofString "BadPlace.__init__") (defArgs (inClass (topS 18) 0)) (defBody (inClass (topS 18) 0)) (defScope (inClass (topS 18) 0)) .none .none .none (.str (Str.ofString "seenrows.errors") 187) none (.ref 267) .none)), #[]⟩),
  (nat_lit 270, ⟨(.type "dict"), none, (.dict #[⟨PyData.keyHash P (Str.ofString "__module__"), (.str (Str.ofString "__module__") 515), (.str (Str.ofString "seenrows.errors") 187)⟩, ⟨PyData.keyHash P (Str.ofString "__firstlineno__"), (.str (Str.ofString "__firstlineno__") 519), (.int 46 518)⟩, ⟨PyData.keyHash P (Str.ofString "__init__"), (.str (Str.ofString "__init__") 527), (.ref 268)⟩, ⟨PyData.keyHash P (Str.ofString "__static_attributes__"), (.str (Str.ofString "__static_attributes__") 529), (.ref 269)⟩, ⟨PyData.keyHash P (Str.ofString "__doc__"), (.str (Str.ofString "__doc__") 530), .none⟩] 2), #[]⟩),
  (nat_lit 271, ⟨(.type "type"), none, (.cls ⟨(Str.ofString "BadPlace"), [(.ref 24)], [(.ref 271), (.ref 24), (.type "ValueError"), (.type "Exception"), (.type "BaseException"), (.type "object")], 270, (Str.ofString "BadPlace"), true, [], [], false, none, false⟩), #[(some (.ref 255)), none, (some (.str (Str.ofString "BadPlace") 508)), (some (.str (Str.ofString "BadPlace") 516)), (some (.builtin "ValueError.__new__")), (some (.bool true))]⟩),
  (nat_lit 274, ⟨(.type "tuple"), none, (.seq #[(.ref 24)] 0), #[]⟩),
  (nat_lit 282, ⟨(.type "dict"), none, (.dict #[⟨PyData.keyHash P (Str.ofString "__module__"), (.str (Str.ofString "__module__") 540), (.str (Str.ofString "seenrows.errors") 187)⟩, ⟨PyData.keyHash P (Str.ofString "__firstlineno__"), (.str (Str.ofString "__firstlineno__") 544), (.int 50 543)⟩, ⟨PyData.keyHash P (Str.ofString "__static_attributes__"), (.str (Str.ofString "__static_attributes__") 545), (.ref 281)⟩, ⟨PyData.keyHash P (Str.ofString "__doc__"), (.str (Str.ofString "__doc__") 546), .none⟩] 2), #[]⟩),
  (nat_lit 283, ⟨(.type "type"), none, (.cls ⟨(Str.ofString "BadPlaces"), [(.ref 24)], [(.ref 283), (.ref 24), (.type "ValueError"), (.type "Exception"), (.type "BaseException"), (.type "object")], 282, (Str.ofString "BadPlaces"), true, [], [], false, none, false⟩), #[(some (.ref 274)), none, (some (.str (Str.ofString "BadPlaces") 533)), (some (.str (Str.ofString "BadPlaces") 541)), (some (.builtin "ValueError.__new__")), (some (.bool true))]⟩),
  (nat_lit 286, ⟨(.type "tuple"), none, (.seq #[(.ref 24)] 0), #[]⟩),
  (nat_lit 298, ⟨(.type "code"), none, (.fields #[(.str (Str.ofString "__init__") 561), (.str (Str.ofString "BadName.__init__") 562), (.str (Str.ofString "/claim/cut.py") 563), (.int 54 0), (.int 2 0), (.int 0 0), (.int 0 0), (.int 3 0), (.ref 293), (.bool true), (.int 181 0), (.ref 294), .none, (.ref 295), (.ref 296), (.ref 297), (.int 566 0), (.int 54 0), (.str (Str.ofString "/claim/cut.py") 567)]), #[]⟩),
  (nat_lit 299, ⟨(.type "function"), none, (.func (PySem.W.fnOf (Str.ofString "__init__") (Str.ofString "BadName.__init__") (defArgs (inClass (topS 20) 0)) (defBody (inClass (topS 20) 0)) (defScope (inClass (topS 20) 0)) .none .none .none (.str (Str.ofString "seenrows.errors") 187) none (.ref 298) .none)), #[]⟩),
  (nat_lit 301, ⟨(.type "dict"), none, (.dict #[⟨PyData.keyHash P (Str.ofString "__module__"), (.str (Str.ofString "__module__") 556), (.str (Str.ofString "seenrows.errors") 187)⟩, ⟨PyData.keyHash P (Str.ofString "__firstlineno__"), (.str (Str.ofString "__firstlineno__") 560), (.int 52 559)⟩, ⟨PyData.keyHash P (Str.ofString "__init__"), (.str (Str.ofString "__init__") 568), (.ref 299)⟩, ⟨PyData.keyHash P (Str.ofString "__static_attributes__"), (.str (Str.ofString "__static_attributes__") 570), (.ref 300)⟩, ⟨PyData.keyHash P (Str.ofString "__doc__"), (.str (Str.ofString "__doc__") 571), .none⟩] 2), #[]⟩),
  (nat_lit 302, ⟨(.type "type"), none, (.cls ⟨(Str.ofString "BadName"), [(.ref 24)], [(.ref 302), (.ref 24), (.type "ValueError"), (.type "Exception"), (.type "BaseException"), (.type "object")], 301, (Str.ofString "BadName"), true, [], [], false, none, false⟩), #[(some (.ref 286)), none, (some (.str (Str.ofString "BadName") 549)), (some (.str (Str.ofString "BadName") 557)), (some (.builtin "ValueError.__new__")), (some (.bool true))]⟩),
  (nat_lit 305, ⟨(.type "tuple"), none, (.seq #[(.ref 24)] 0), #[]⟩),
  (nat_lit 317, ⟨(.type "code"), none, (.fields #[(.str (Str.ofString "__init__") 586), (.str (Str.ofString "NoName.__init__") 587), (.str (Str.ofString "/claim/cut.py") 588), (.int 58 0), (.int 2 0), (.int 0 0), (.int 0 0), (.int 3 0), (.ref 312), (.bool true), (.int 181 0), (.ref 313), .none, (.ref 314), (.ref 315), (.ref 316), (.int 591 0), (.int 58 0), (.str (Str.ofString "/claim/cut.py") 592)]), #[]⟩),
  (nat_lit 318, ⟨(.type "function"), none, (.func (PySem.W.fnOf (Str.ofString "__init__") (Str.ofString "NoName.__init__") (defArgs (inClass (topS 21) 0)) (defBody (inClass (topS 21) 0)) (defScope (inClass (topS 21) 0)) .none .none .none (.str (Str.ofString "seenrows.errors") 187) none (.ref 317) .none)), #[]⟩),
  (nat_lit 320, ⟨(.type "dict"), none, (.dict #[⟨PyData.keyHash P (Str.ofString "__module__"), (.str (Str.ofString "__module__") 581), (.str (Str.ofString "seenrows.errors") 187)⟩, ⟨PyData.keyHash P (Str.ofString "__firstlineno__"), (.str (Str.ofString "__firstlineno__") 585), (.int 56 584)⟩, ⟨PyData.keyHash P (Str.ofString "__init__"), (.str (Str.ofString "__init__") 593), (.ref 318)⟩, ⟨PyData.keyHash P (Str.ofString "__static_attributes__"), (.str (Str.ofString "__static_attributes__") 595), (.ref 319)⟩, ⟨PyData.keyHash P (Str.ofString "__doc__"), (.str (Str.ofString "__doc__") 596), .none⟩] 2), #[]⟩),
  (nat_lit 321, ⟨(.type "type"), none, (.cls ⟨(Str.ofString "NoName"), [(.ref 24)], [(.ref 321), (.ref 24), (.type "ValueError"), (.type "Exception"), (.type "BaseException"), (.type "object")], 320, (Str.ofString "NoName"), true, [], [], false, none, false⟩), #[(some (.ref 305)), none, (some (.str (Str.ofString "NoName") 574)), (some (.str (Str.ofString "NoName") 582)), (some (.builtin "ValueError.__new__")), (some (.bool true))]⟩),
  (nat_lit 324, ⟨(.type "tuple"), none, (.seq #[(.ref 24)] 0), #[]⟩),
  (nat_lit 336, ⟨(.type "code"), none, (.fields #[(.str (Str.ofString "__init__") 611), (.str (Str.ofString "BadWord.__init__") 612), (.str (Str.ofString "/claim/cut.py") 613), (.int 62 0), (.int 2 0), (.int 0 0), (.int 0 0), (.int 3 0), (.ref 331), (.bool true), (.int 181 0), (.ref 332), .none, (.ref 333), (.ref 334), (.ref 335), (.int 616 0), (.int 62 0), (.str (Str.ofString "/claim/cut.py") 617)]), #[]⟩),
  (nat_lit 337, ⟨(.type "function"), none, (.func (PySem.W.fnOf (Str.ofString "__init__") (Str.ofString "BadWord.__init__") (defArgs (inClass (topS 22) 0)) (defBody (inClass (topS 22) 0)) (defScope (inClass (topS 22) 0)) .none .none .none (.str (Str.ofString "seenrows.errors") 187) none (.ref 336) .none)), #[]⟩),
  (nat_lit 339, ⟨(.type "dict"), none, (.dict #[⟨PyData.keyHash P (Str.ofString "__module__"), (.str (Str.ofString "__module__") 606), (.str (Str.ofString "seenrows.errors") 187)⟩, ⟨PyData.keyHash P (Str.ofString "__firstlineno__"), (.str (Str.ofString "__firstlineno__") 610), (.int 60 609)⟩, ⟨PyData.keyHash P (Str.ofString "__init__"), (.str (Str.ofString "__init__") 618), (.ref 337)⟩, ⟨PyData.keyHash P (Str.ofString "__static_attributes__"), (.str (Str.ofString "__static_attributes__") 620), (.ref 338)⟩, ⟨PyData.keyHash P (Str.ofString "__doc__"), (.str (Str.ofString "__doc__") 621), .none⟩] 2), #[]⟩),
  (nat_lit 340, ⟨(.type "type"), none, (.cls ⟨(Str.ofString "BadWord"), [(.ref 24)], [(.ref 340), (.ref 24), (.type "ValueError"), (.type "Exception"), (.type "BaseException"), (.type "object")], 339, (Str.ofString "BadWord"), true, [], [], false, none, false⟩), #[(some (.ref 324)), none, (some (.str (Str.ofString "BadWord") 599)), (some (.str (Str.ofString "BadWord") 607)), (some (.builtin "ValueError.__new__")), (some (.bool true))]⟩),
  (nat_lit 343, ⟨(.type "tuple"), none, (.seq #[(.ref 24)] 0), #[]⟩),
  (nat_lit 351, ⟨(.type "dict"), none, (.dict #[⟨PyData.keyHash P (Str.ofString "__module__"), (.str (Str.ofString "__module__") 631), (.str (Str.ofString "seenrows.errors") 187)⟩, ⟨PyData.keyHash P (Str.ofString "__firstlineno__"), (.str (Str.ofString "__firstlineno__") 635), (.int 64 634)⟩, ⟨PyData.keyHash P (Str.ofString "__static_attributes__"), (.str (Str.ofString "__static_attributes__") 636), (.ref 350)⟩, ⟨PyData.keyHash P (Str.ofString "__doc__"), (.str (Str.ofString "__doc__") 637), .none⟩] 2), #[]⟩),
  (nat_lit 352, ⟨(.type "type"), none, (.cls ⟨(Str.ofString "NothingToUndo"), [(.ref 24)], [(.ref 352), (.ref 24), (.type "ValueError"), (.type "Exception"), (.type "BaseException"), (.type "object")], 351, (Str.ofString "NothingToUndo"), true, [], [], false, none, false⟩), #[(some (.ref 343)), none, (some (.str (Str.ofString "NothingToUndo") 624)), (some (.str (Str.ofString "NothingToUndo") 632)), (some (.builtin "ValueError.__new__")), (some (.bool true))]⟩),
  (nat_lit 355, ⟨(.type "tuple"), none, (.seq #[(.ref 24)] 0), #[]⟩),
  (nat_lit 363, ⟨(.type "dict"), none, (.dict #[⟨PyData.keyHash P (Str.ofString "__module__"), (.str (Str.ofString "__module__") 647), (.str (Str.ofString "seenrows.errors") 187)⟩, ⟨PyData.keyHash P (Str.ofString "__firstlineno__"), (.str (Str.ofString "__firstlineno__") 651), (.int 66 650)⟩, ⟨PyData.keyHash P (Str.ofString "__static_attributes__"), (.str (Str.ofString "__static_attributes__") 652), (.ref 362)⟩, ⟨PyData.keyHash P (Str.ofString "__doc__"), (.str (Str.ofString "__doc__") 653), .none⟩] 2), #[]⟩),
  (nat_lit 364, ⟨(.type "type"), none, (.cls ⟨(Str.ofString "BadText"), [(.ref 24)], [(.ref 364), (.ref 24), (.type "ValueError"), (.type "Exception"), (.type "BaseException"), (.type "object")], 363, (Str.ofString "BadText"), true, [], [], false, none, false⟩), #[(some (.ref 355)), none, (some (.str (Str.ofString "BadText") 640)), (some (.str (Str.ofString "BadText") 648)), (some (.builtin "ValueError.__new__")), (some (.bool true))]⟩),
  (nat_lit 367, ⟨(.type "tuple"), none, (.seq #[(.ref 24)] 0), #[]⟩),
  (nat_lit 379, ⟨(.type "code"), none, (.fields #[(.str (Str.ofString "__init__") 668), (.str (Str.ofString "BadLine.__init__") 669), (.str (Str.ofString "/claim/cut.py") 670), (.int 70 0), (.int 2 0), (.int 0 0), (.int 0 0), (.int 3 0), (.ref 374), (.bool true), (.int 181 0), (.ref 375), .none, (.ref 376), (.ref 377), (.ref 378), (.int 673 0), (.int 70 0), (.str (Str.ofString "/claim/cut.py") 674)]), #[]⟩),
  (nat_lit 380, ⟨(.type "function"), none, (.func (PySem.W.fnOf (Str.ofString "__init__") (Str.ofString "BadLine.__init__") (defArgs (inClass (topS 25) 0)) (defBody (inClass (topS 25) 0)) (defScope (inClass (topS 25) 0)) .none .none .none (.str (Str.ofString "seenrows.errors") 187) none (.ref 379) .none)), #[]⟩),
  (nat_lit 382, ⟨(.type "dict"), none, (.dict #[⟨PyData.keyHash P (Str.ofString "__module__"), (.str (Str.ofString "__module__") 663), (.str (Str.ofString "seenrows.errors") 187)⟩, ⟨PyData.keyHash P (Str.ofString "__firstlineno__"), (.str (Str.ofString "__firstlineno__") 667), (.int 68 666)⟩, ⟨PyData.keyHash P (Str.ofString "__init__"), (.str (Str.ofString "__init__") 675), (.ref 380)⟩, ⟨PyData.keyHash P (Str.ofString "__static_attributes__"), (.str (Str.ofString "__static_attributes__") 677), (.ref 381)⟩, ⟨PyData.keyHash P (Str.ofString "__doc__"), (.str (Str.ofString "__doc__") 678), .none⟩] 2), #[]⟩),
  (nat_lit 383, ⟨(.type "type"), none, (.cls ⟨(Str.ofString "BadLine"), [(.ref 24)], [(.ref 383), (.ref 24), (.type "ValueError"), (.type "Exception"), (.type "BaseException"), (.type "object")], 382, (Str.ofString "BadLine"), true, [], [], false, none, false⟩), #[(some (.ref 367)), none, (some (.str (Str.ofString "BadLine") 656)), (some (.str (Str.ofString "BadLine") 664)), (some (.builtin "ValueError.__new__")), (some (.bool true))]⟩),
  (nat_lit 389, ⟨(.type "code"), none, (.fields #[(.str (Str.ofString "_law_box") 683), (.str (Str.ofString "_law_box") 684), (.str (Str.ofString "/claim/cut.py") 685), (.int 73 0), (.int 1 0), (.int 0 0), (.int 0 0), (.int 3 0), (.ref 386), (.bool true), (.int 181 0), (.ref 387), .none, .none, .none, (.ref 388), (.int 686 0), (.int 73 0), (.str (Str.ofString "/claim/cut.py") 687)]), #[]⟩),
  (nat_lit 390, ⟨(.type "function"), none, (.func (PySem.W.fnOf (Str.ofString "_law_box") (Str.ofString "_law_box") (defArgs (topS 27)) (defBody (topS 27)) (defScope (topS 27)) .none .none .none (.str (Str.ofString "law_seenrows_k27_errors_made") 681) none (.ref 389) .none)), #[]⟩),
  (nat_lit 396, ⟨(.type "code"), none, (.fields #[(.str (Str.ofString "_law_take") 689), (.str (Str.ofString "_law_take") 690), (.str (Str.ofString "/claim/cut.py") 691), (.int 75 0), (.int 2 0), (.int 0 0), (.int 0 0), (.int 3 0), (.ref 391), (.bool true), (.int 181 0), (.ref 392), .none, (.ref 393), (.ref 394), (.ref 395), (.int 698 0), (.int 75 0), (.str (Str.ofString "/claim/cut.py") 699)]), #[]⟩),
  (nat_lit 397, ⟨(.type "function"), none, (.func (PySem.W.fnOf (Str.ofString "_law_take") (Str.ofString "_law_take") (defArgs (topS 28)) (defBody (topS 28)) (defScope (topS 28)) .none .none .none (.str (Str.ofString "law_seenrows_k27_errors_made") 681) none (.ref 396) .none)), #[]⟩),
  (nat_lit 403, ⟨(.type "code"), none, (.fields #[(.str (Str.ofString "_law_pick") 701), (.str (Str.ofString "_law_pick") 702), (.str (Str.ofString "/claim/cut.py") 703), (.int 87 0), (.int 2 0), (.int 0 0), (.int 0 0), (.int 3 0), (.ref 398), (.bool true), (.int 181 0), (.ref 399), .none, (.ref 400), (.ref 401), (.ref 402), (.int 706 0), (.int 87 0), (.str (Str.ofString "/claim/cut.py") 707)]), #[]⟩),
  (nat_lit 404, ⟨(.type "function"), none, (.func (PySem.W.fnOf (Str.ofString "_law_pick") (Str.ofString "_law_pick") (defArgs (topS 29)) (defBody (topS 29)) (defScope (topS 29)) .none .none .none (.str (Str.ofString "law_seenrows_k27_errors_made") 681) none (.ref 403) .none)), #[]⟩),
  (nat_lit 410, ⟨(.type "code"), none, (.fields #[(.str (Str.ofString "_law_with_fields") 709), (.str (Str.ofString "_law_with_fields") 710), (.str (Str.ofString "/claim/cut.py") 711), (.int 89 0), (.int 1 0), (.int 0 0), (.int 0 0), (.int 3 0), (.ref 405), (.bool true), (.int 181 0), (.ref 406), .none, (.ref 407), (.ref 408), (.ref 409), (.int 714 0), (.int 89 0), (.str (Str.ofString "/claim/cut.py") 715)]), #[]⟩),
  (nat_lit 411, ⟨(.type "function"), none, (.func (PySem.W.fnOf (Str.ofString "_law_with_fields") (Str.ofString "_law_with_fields") (defArgs (topS 30)) (defBody (topS 30)) (defScope (topS 30)) .none .none .none (.str (Str.ofString "law_seenrows_k27_errors_made") 681) none (.ref 410) .none)), #[]⟩),
  (nat_lit 417, ⟨(.type "code"), none, (.fields #[(.str (Str.ofString "_law_fields") 717), (.str (Str.ofString "_law_fields") 718), (.str (Str.ofString "/claim/cut.py") 719), (.int 95 0), (.int 1 0), (.int 0 0), (.int 0 0), (.int 3 0), (.ref 412), (.bool true), (.int 181 0), (.ref 413), .none, (.ref 414), (.ref 415), (.ref 416), (.int 722 0), (.int 95 0), (.str (Str.ofString "/claim/cut.py") 723)]), #[]⟩),
  (nat_lit 418, ⟨(.type "function"), none, (.func (PySem.W.fnOf (Str.ofString "_law_fields") (Str.ofString "_law_fields") (defArgs (topS 31)) (defBody (topS 31)) (defScope (topS 31)) .none .none .none (.str (Str.ofString "law_seenrows_k27_errors_made") 681) none (.ref 417) .none)), #[]⟩),
  (nat_lit 424, ⟨(.type "code"), none, (.fields #[(.str (Str.ofString "_law_plain_ones") 725), (.str (Str.ofString "_law_plain_ones") 726), (.str (Str.ofString "/claim/cut.py") 727), (.int 98 0), (.int 0 0), (.int 0 0), (.int 0 0), (.int 3 0), (.ref 419), (.bool true), (.int 181 0), (.ref 420), .none, (.ref 421), (.ref 422), (.ref 423), (.int 729 0), (.int 98 0), (.str (Str.ofString "/claim/cut.py") 730)]), #[]⟩),
  (nat_lit 425, ⟨(.type "function"), none, (.func (PySem.W.fnOf (Str.ofString "_law_plain_ones") (Str.ofString "_law_plain_ones") (defArgs (topS 32)) (defBody (topS 32)) (defScope (topS 32)) .none .none .none (.str (Str.ofString "law_seenrows_k27_errors_made") 681) none (.ref 424) .none)), #[]⟩),
  (nat_lit 431, ⟨(.type "code"), none, (.fields #[(.str (Str.ofString "_law_classes") 732), (.str (Str.ofString "_law_classes") 733), (.str (Str.ofString "/claim/cut.py") 734), (.int 101 0), (.int 1 0), (.int 0 0), (.int 0 0), (.int 3 0), (.ref 426), (.bool true), (.int 181 0), (.ref 427), .none, (.ref 428), (.ref 429), (.ref 430), (.int 737 0), (.int 101 0), (.str (Str.ofString "/claim/cut.py") 738)]), #[]⟩),
  (nat_lit 432, ⟨(.type "function"), none, (.func (PySem.W.fnOf (Str.ofString "_law_classes") (Str.ofString "_law_classes") (defArgs (topS 33)) (defBody (topS 33)) (defScope (topS 33)) .none .none .none (.str (Str.ofString "law_seenrows_k27_errors_made") 681) none (.ref 431) .none)), #[]⟩),
  (nat_lit 436, ⟨(.type "code"), none, (.fields #[(.str (Str.ofString "law") 740), (.str (Str.ofString "law") 741), (.str (Str.ofString "/claim/cut.py") 742), (.int 110 0), (.int 1 0), (.int 0 0), (.int 0 0), (.int 3 0), (.ref 433), (.bool true), (.int 181 0), (.ref 434), .none, .none, .none, (.ref 435), (.int 743 0), (.int 110 0), (.str (Str.ofString "/claim/cut.py") 744)]), #[]⟩),
  (nat_lit 437, ⟨(.type "function"), none, (.func (PySem.W.fnOf (Str.ofString "law") (Str.ofString "law") (defArgs (topS 34)) (defBody (topS 34)) (defScope (topS 34)) .none .none .none (.str (Str.ofString "law_seenrows_k27_errors_made") 681) none (.ref 436) .none)), #[]⟩)]
def KA1 : List Addr := [nat_lit 249, nat_lit 251, nat_lit 252, nat_lit 255, nat_lit 267, nat_lit 268, nat_lit 270, nat_lit 271, nat_lit 274, nat_lit 282, nat_lit 283, nat_lit 286, nat_lit 298, nat_lit 299, nat_lit 301, nat_lit 302, nat_lit 305, nat_lit 317, nat_lit 318, nat_lit 320, nat_lit 321, nat_lit 324, nat_lit 336, nat_lit 337, nat_lit 339, nat_lit 340, nat_lit 343, nat_lit 351, nat_lit 352, nat_lit 355, nat_lit 363, nat_lit 364, nat_lit 367, nat_lit 379, nat_lit 380, nat_lit 382, nat_lit 383, nat_lit 389, nat_lit 390, nat_lit 396, nat_lit 397, nat_lit 403, nat_lit 404, nat_lit 410, nat_lit 411, nat_lit 417, nat_lit 418, nat_lit 424, nat_lit 425, nat_lit 431, nat_lit 432, nat_lit 436, nat_lit 437]
def KK : Params → PySem.W.Frag := fun P =>
  (nat_lit 2, ⟨.none, none, (.dict #[] 0), #[]⟩) ::
  (nat_lit 3, ⟨(.type "dict"), none, (.dict #[⟨PyData.keyHash P (Str.ofString "__name__"), (.str (Str.ofString "__name__") 165), (.str (Str.ofString "law_seenrows_k27_errors_made") 681)⟩, ⟨PyData.keyHash P (Str.ofString "__doc__"), (.str (Str.ofString "__doc__") 166), .none⟩, ⟨PyData.keyHash P (Str.ofString "__package__"), (.str (Str.ofString "__package__") 167), .none⟩, ⟨PyData.keyHash P (Str.ofString "__loader__"), (.str (Str.ofString "__loader__") 168), (.builtin "__main__.__loader__#opaque")⟩, ⟨PyData.keyHash P (Str.ofString "__spec__"), (.str (Str.ofString "__spec__") 169), .none⟩, ⟨PyData.keyHash P (Str.ofString "__annotations__"), (.str (Str.ofString "__annotations__") 170), (.ref 6)⟩, ⟨PyData.keyHash P (Str.ofString "__builtins__"), (.str (Str.ofString "__builtins__") 171), (.ref 4)⟩, ⟨PyData.keyHash P (Str.ofString "__file__"), (.str (Str.ofString "__file__") 173), (.str (Str.ofString "/claim/cut.py") 172)⟩, ⟨PyData.keyHash P (Str.ofString "__cached__"), (.str (Str.ofString "__cached__") 174), .none⟩, ⟨PyData.keyHash P (Str.ofString "SeenError"), (.str (Str.ofString "SeenError") 206), (.ref 24)⟩, ⟨PyData.keyHash P (Str.ofString "BadPrime"), (.str (Str.ofString "BadPrime") 231), (.ref 44)⟩, ⟨PyData.keyHash P (Str.ofString "BadTerm"), (.str (Str.ofString "BadTerm") 256), (.ref 63)⟩, ⟨PyData.keyHash P (Str.ofString "UnlikePrimes"), (.str (Str.ofString "UnlikePrimes") 272), (.ref 75)⟩, ⟨PyData.keyHash P (Str.ofString "ZeroFilter"), (.str (Str.ofString "ZeroFilter") 288), (.ref 87)⟩, ⟨PyData.keyHash P (Str.ofString "BadRule"), (.str (Str.ofString "BadRule") 304), (.ref 99)⟩, ⟨PyData.keyHash P (Str.ofString "BadDigits"), (.str (Str.ofString "BadDigits") 320), (.ref 111)⟩, ⟨PyData.keyHash P (Str.ofString "BadWidth"), (.str (Str.ofString "BadWidth") 345), (.ref 130)⟩, ⟨PyData.keyHash P (Str.ofString "BadRow"), (.str (Str.ofString "BadRow") 370), (.ref 149)⟩, ⟨PyData.keyHash P (Str.ofString "UnlikeTables"), (.str (Str.ofString "UnlikeTables") 386), (.ref 161)⟩, ⟨PyData.keyHash P (Str.ofString "BadSequences"), (.str (Str.ofString "BadSequences") 402), (.ref 173)⟩, ⟨PyData.keyHash P (Str.ofString "NoRows"), (.str (Str.ofString "NoRows") 418), (.ref 185)⟩, ⟨PyData.keyHash P (Str.ofString "NotCase"), (.str (Str.ofString "NotCase") 434), (.ref 197)⟩, ⟨PyData.keyHash P (Str.ofString "UnlikeWorlds"), (.str (Str.ofString "UnlikeWorlds") 450), (.ref 209)⟩, ⟨PyData.keyHash P (Str.ofString "NotTold"), (.str (Str.ofString "NotTold") 466), (.ref 221)⟩, ⟨PyData.keyHash P (Str.ofString "Impossible"), (.str (Str.ofString "Impossible") 482), (.ref 233)⟩, ⟨PyData.keyHash P (Str.ofString "BadCount"), (.str (Str.ofString "BadCount") 507), (.ref 252)⟩, ⟨PyData.keyHash P (Str.ofString "BadPlace"), (.str (Str.ofString "BadPlace") 532), (.ref 271)⟩, ⟨PyData.keyHash P (Str.ofString "BadPlaces"), (.str (Str.ofString "BadPlaces") 548), (.ref 283)⟩, ⟨PyData.keyHash P (Str.ofString "BadName"), (.str (Str.ofString "BadName") 573), (.ref 302)⟩, ⟨PyData.keyHash P (Str.ofString "NoName"), (.str (Str.ofString "NoName") 598), (.ref 321)⟩, ⟨PyData.keyHash P (Str.ofString "BadWord"), (.str (Str.ofString "BadWord") 623), (.ref 340)⟩, ⟨PyData.keyHash P (Str.ofString "NothingToUndo"), (.str (Str.ofString "NothingToUndo") 639), (.ref 352)⟩, ⟨PyData.keyHash P (Str.ofString "BadText"), (.str (Str.ofString "BadText") 655), (.ref 364)⟩, ⟨PyData.keyHash P (Str.ofString "BadLine"), (.str (Str.ofString "BadLine") 680), (.ref 383)⟩, ⟨PyData.keyHash P (Str.ofString "_law_box"), (.str (Str.ofString "_law_box") 688), (.ref 390)⟩, ⟨PyData.keyHash P (Str.ofString "_law_take"), (.str (Str.ofString "_law_take") 700), (.ref 397)⟩, ⟨PyData.keyHash P (Str.ofString "_law_pick"), (.str (Str.ofString "_law_pick") 708), (.ref 404)⟩, ⟨PyData.keyHash P (Str.ofString "_law_with_fields"), (.str (Str.ofString "_law_with_fields") 716), (.ref 411)⟩, ⟨PyData.keyHash P (Str.ofString "_law_fields"), (.str (Str.ofString "_law_fields") 724), (.ref 418)⟩, ⟨PyData.keyHash P (Str.ofString "_law_plain_ones"), (.str (Str.ofString "_law_plain_ones") 731), (.ref 425)⟩, ⟨PyData.keyHash P (Str.ofString "_law_classes"), (.str (Str.ofString "_law_classes") 739), (.ref 432)⟩, ⟨PyData.keyHash P (Str.ofString "law"), (.str (Str.ofString "law") 745), (.ref 437)⟩] 42), #[]⟩) ::
  (nat_lit 15, ⟨(.type "tuple"), none, (.seq #[(.type "ValueError")] 0), #[]⟩) ::
  (nat_lit 23, ⟨(.type "dict"), none, (.dict #[⟨PyData.keyHash P (Str.ofString "__module__"), (.str (Str.ofString "__module__") 196), (.str (Str.ofString "seenrows.errors") 187)⟩, ⟨PyData.keyHash P (Str.ofString "__firstlineno__"), (.str (Str.ofString "__firstlineno__") 200), (.int 2 199)⟩, ⟨PyData.keyHash P (Str.ofString "__static_attributes__"), (.str (Str.ofString "__static_attributes__") 201), (.ref 22)⟩, ⟨PyData.keyHash P (Str.ofString "__weakref__"), (.str (Str.ofString "__weakref__") 203), (.ref 25)⟩, ⟨PyData.keyHash P (Str.ofString "__doc__"), (.str (Str.ofString "__doc__") 204), .none⟩] 3), #[]⟩) ::
  (nat_lit 24, ⟨(.type "type"), none, (.cls ⟨(Str.ofString "SeenError"), [(.type "ValueError")], [(.ref 24), (.type "ValueError"), (.type "Exception"), (.type "BaseException"), (.type "object")], 23, (Str.ofString "SeenError"), true, [], [(.ref 44), (.ref 63), (.ref 75), (.ref 87), (.ref 99), (.ref 111), (.ref 130), (.ref 149), (.ref 161), (.ref 173), (.ref 185), (.ref 197), (.ref 209), (.ref 221), (.ref 233), (.ref 252), (.ref 271), (.ref 283), (.ref 302), (.ref 321), (.ref 340), (.ref 352), (.ref 364), (.ref 383)], false, none, false⟩), #[(some (.ref 15)), none, (some (.str (Str.ofString "SeenError") 189)), (some (.str (Str.ofString "SeenError") 197)), (some (.builtin "ValueError.__new__")), (some (.bool true))]⟩) ::
  (nat_lit 28, ⟨(.type "tuple"), none, (.seq #[(.ref 24)] 0), #[]⟩) ::
  (nat_lit 40, ⟨(.type "code"), none, (.fields #[(.str (Str.ofString "__init__") 219), (.str (Str.ofString "BadPrime.__init__") 220), (.str (Str.ofString "/claim/cut.py") 221), (.int 6 0), (.int 2 0), (.int 0 0), (.int 0 0), (.int 3 0), (.ref 35), (.bool true), (.int 181 0), (.ref 36), .none, (.ref 37), (.ref 38), (.ref 39), (.int 224 0), (.int 6 0), (.str (Str.ofString "/claim/cut.py") 225)]), #[]⟩) ::
  (nat_lit 41, ⟨(.type "function"), none, (.func (PySem.W.fnOf (Str.ofString "__init__") (Str.ofString "BadPrime.__init__") (defArgs (inClass (topS 2) 0)) (defBody (inClass (topS 2) 0)) (defScope (inClass (topS 2) 0)) .none .none .none (.str (Str.ofString "seenrows.errors") 187) none (.ref 40) .none)), #[]⟩) ::
  (nat_lit 43, ⟨(.type "dict"), none, (.dict #[⟨PyData.keyHash P (Str.ofString "__module__"), (.str (Str.ofString "__module__") 214), (.str (Str.ofString "seenrows.errors") 187)⟩, ⟨PyData.keyHash P (Str.ofString "__firstlineno__"), (.str (Str.ofString "__firstlineno__") 218), (.int 4 217)⟩, ⟨PyData.keyHash P (Str.ofString "__init__"), (.str (Str.ofString "__init__") 226), (.ref 41)⟩, ⟨PyData.keyHash P (Str.ofString "__static_attributes__"), (.str (Str.ofString "__static_attributes__") 228), (.ref 42)⟩, ⟨PyData.keyHash P (Str.ofString "__doc__"), (.str (Str.ofString "__doc__") 229), .none⟩] 2), #[]⟩) ::
  (nat_lit 44, ⟨(.type "type"), none, (.cls ⟨(Str.ofString "BadPrime"), [(.ref 24)], [(.ref 44), (.ref 24), (.type "ValueError"), (.type "Exception"), (.type "BaseException"), (.type "object")], 43, (Str.ofString "BadPrime"), true, [], [], false, none, false⟩), #[(some (.ref 28)), none, (some (.str (Str.ofString "BadPrime") 207)), (some (.str (Str.ofString "BadPrime") 215)), (some (.builtin "ValueError.__new__")), (some (.bool true))]⟩) ::
  (nat_lit 47, ⟨(.type "tuple"), none, (.seq #[(.ref 24)] 0), #[]⟩) ::
  (nat_lit 59, ⟨(.type "code"), none, (.fields #[(.str (Str.ofString "__init__") 244), (.str (Str.ofString "BadTerm.__init__") 245), (.str (Str.ofString "/claim/cut.py") 246), (.int 10 0), (.int 2 0), (.int 0 0), (.int 0 0), (.int 3 0), (.ref 54), (.bool true), (.int 181 0), (.ref 55), .none, (.ref 56), (.ref 57), (.ref 58), (.int 249 0), (.int 10 0), (.str (Str.ofString "/claim/cut.py") 250)]), #[]⟩) ::
  (nat_lit 60, ⟨(.type "function"), none, (.func (PySem.W.fnOf (Str.ofString "__init__") (Str.ofString "BadTerm.__init__") (defArgs (inClass (topS 3) 0)) (defBody (inClass (topS 3) 0)) (defScope (inClass (topS 3) 0)) .none .none .none (.str (Str.ofString "seenrows.errors") 187) none (.ref 59) .none)), #[]⟩) ::
  (nat_lit 62, ⟨(.type "dict"), none, (.dict #[⟨PyData.keyHash P (Str.ofString "__module__"), (.str (Str.ofString "__module__") 239), (.str (Str.ofString "seenrows.errors") 187)⟩, ⟨PyData.keyHash P (Str.ofString "__firstlineno__"), (.str (Str.ofString "__firstlineno__") 243), (.int 8 242)⟩, ⟨PyData.keyHash P (Str.ofString "__init__"), (.str (Str.ofString "__init__") 251), (.ref 60)⟩, ⟨PyData.keyHash P (Str.ofString "__static_attributes__"), (.str (Str.ofString "__static_attributes__") 253), (.ref 61)⟩, ⟨PyData.keyHash P (Str.ofString "__doc__"), (.str (Str.ofString "__doc__") 254), .none⟩] 2), #[]⟩) ::
  (nat_lit 63, ⟨(.type "type"), none, (.cls ⟨(Str.ofString "BadTerm"), [(.ref 24)], [(.ref 63), (.ref 24), (.type "ValueError"), (.type "Exception"), (.type "BaseException"), (.type "object")], 62, (Str.ofString "BadTerm"), true, [], [], false, none, false⟩), #[(some (.ref 47)), none, (some (.str (Str.ofString "BadTerm") 232)), (some (.str (Str.ofString "BadTerm") 240)), (some (.builtin "ValueError.__new__")), (some (.bool true))]⟩) ::
  (nat_lit 66, ⟨(.type "tuple"), none, (.seq #[(.ref 24)] 0), #[]⟩) ::
  (nat_lit 74, ⟨(.type "dict"), none, (.dict #[⟨PyData.keyHash P (Str.ofString "__module__"), (.str (Str.ofString "__module__") 264), (.str (Str.ofString "seenrows.errors") 187)⟩, ⟨PyData.keyHash P (Str.ofString "__firstlineno__"), (.str (Str.ofString "__firstlineno__") 268), (.int 12 267)⟩, ⟨PyData.keyHash P (Str.ofString "__static_attributes__"), (.str (Str.ofString "__static_attributes__") 269), (.ref 73)⟩, ⟨PyData.keyHash P (Str.ofString "__doc__"), (.str (Str.ofString "__doc__") 270), .none⟩] 2), #[]⟩) ::
  (nat_lit 75, ⟨(.type "type"), none, (.cls ⟨(Str.ofString "UnlikePrimes"), [(.ref 24)], [(.ref 75), (.ref 24), (.type "ValueError"), (.type "Exception"), (.type "BaseException"), (.type "object")], 74, (Str.ofString "UnlikePrimes"), true, [], [], false, none, false⟩), #[(some (.ref 66)), none, (some (.str (Str.ofString "UnlikePrimes") 257)), (some (.str (Str.ofString "UnlikePrimes") 265)), (some (.builtin "ValueError.__new__")), (some (.bool true))]⟩) ::
  (nat_lit 78, ⟨(.type "tuple"), none, (.seq #[(.ref 24)] 0), #[]⟩) ::
  (nat_lit 86, ⟨(.type "dict"), none, (.dict #[⟨PyData.keyHash P (Str.ofString "__module__"), (.str (Str.ofString "__module__") 280), (.str (Str.ofString "seenrows.errors") 187)⟩, ⟨PyData.keyHash P (Str.ofString "__firstlineno__"), (.str (Str.ofString "__firstlineno__") 284), (.int 14 283)⟩, ⟨PyData.keyHash P (Str.ofString "__static_attributes__"), (.str (Str.ofString "__static_attributes__") 285), (.ref 85)⟩, ⟨PyData.keyHash P (Str.ofString "__doc__"), (.str (Str.ofString "__doc__") 286), .none⟩] 2), #[]⟩) ::
  (nat_lit 87, ⟨(.type "type"), none, (.cls ⟨(Str.ofString "ZeroFilter"), [(.ref 24)], [(.ref 87), (.ref 24), (.type "ValueError"), (.type "Exception"), (.type "BaseException"), (.type "object")], 86, (Str.ofString "ZeroFilter"), true, [], [], false, none, false⟩), #[(some (.ref 78)), none, (some (.str (Str.ofString "ZeroFilter") 273)), (some (.str (Str.ofString "ZeroFilter") 281)), (some (.builtin "ValueError.__new__")), (some (.bool true))]⟩) ::
  (nat_lit 90, ⟨(.type "tuple"), none, (.seq #[(.ref 24)] 0), #[]⟩) ::
  (nat_lit 98, ⟨(.type "dict"), none, (.dict #[⟨PyData.keyHash P (Str.ofString "__module__"), (.str (Str.ofString "__module__") 296), (.str (Str.ofString "seenrows.errors") 187)⟩, ⟨PyData.keyHash P (Str.ofString "__firstlineno__"), (.str (Str.ofString "__firstlineno__") 300), (.int 16 299)⟩, ⟨PyData.keyHash P (Str.ofString "__static_attributes__"), (.str (Str.ofString "__static_attributes__") 301), (.ref 97)⟩, ⟨PyData.keyHash P (Str.ofString "__doc__"), (.str (Str.ofString "__doc__") 302), .none⟩] 2), #[]⟩) ::
  (nat_lit 99, ⟨(.type "type"), none, (.cls ⟨(Str.ofString "BadRule"), [(.ref 24)], [(.ref 99), (.ref 24), (.type "ValueError"), (.type "Exception"), (.type "BaseException"), (.type "object")], 98, (Str.ofString "BadRule"), true, [], [], false, none, false⟩), #[(some (.ref 90)), none, (some (.str (Str.ofString "BadRule") 289)), (some (.str (Str.ofString "BadRule") 297)), (some (.builtin "ValueError.__new__")), (some (.bool true))]⟩) ::
  (nat_lit 102, ⟨(.type "tuple"), none, (.seq #[(.ref 24)] 0), #[]⟩) ::
  (nat_lit 110, ⟨(.type "dict"), none, (.dict #[⟨PyData.keyHash P (Str.ofString "__module__"), (.str (Str.ofString "__module__") 312), (.str (Str.ofString "seenrows.errors") 187)⟩, ⟨PyData.keyHash P (Str.ofString "__firstlineno__"), (.str (Str.ofString "__firstlineno__") 316), (.int 18 315)⟩, ⟨PyData.keyHash P (Str.ofString "__static_attributes__"), (.str (Str.ofString "__static_attributes__") 317), (.ref 109)⟩, ⟨PyData.keyHash P (Str.ofString "__doc__"), (.str (Str.ofString "__doc__") 318), .none⟩] 2), #[]⟩) ::
  (nat_lit 111, ⟨(.type "type"), none, (.cls ⟨(Str.ofString "BadDigits"), [(.ref 24)], [(.ref 111), (.ref 24), (.type "ValueError"), (.type "Exception"), (.type "BaseException"), (.type "object")], 110, (Str.ofString "BadDigits"), true, [], [], false, none, false⟩), #[(some (.ref 102)), none, (some (.str (Str.ofString "BadDigits") 305)), (some (.str (Str.ofString "BadDigits") 313)), (some (.builtin "ValueError.__new__")), (some (.bool true))]⟩) ::
  (nat_lit 114, ⟨(.type "tuple"), none, (.seq #[(.ref 24)] 0), #[]⟩) ::
  (nat_lit 126, ⟨(.type "code"), none, (.fields #[(.str (Str.ofString "__init__") 333), (.str (Str.ofString "BadWidth.__init__") 334), (.str (Str.ofString "/claim/cut.py") 335), (.int 22 0), (.int 2 0), (.int 0 0), (.int 0 0), (.int 3 0), (.ref 121), (.bool true), (.int 181 0), (.ref 122), .none, (.ref 123), (.ref 124), (.ref 125), (.int 338 0), (.int 22 0), (.str (Str.ofString "/claim/cut.py") 339)]), #[]⟩) ::
  (nat_lit 127, ⟨(.type "function"), none, (.func (PySem.W.fnOf (Str.ofString "__init__") (Str.ofString "BadWidth.__init__") (defArgs (inClass (topS 8) 0)) (defBody (inClass (topS 8) 0)) (defScope (inClass (topS 8) 0)) .none .none .none (.str (Str.ofString "seenrows.errors") 187) none (.ref 126) .none)), #[]⟩) ::
  (nat_lit 129, ⟨(.type "dict"), none, (.dict #[⟨PyData.keyHash P (Str.ofString "__module__"), (.str (Str.ofString "__module__") 328), (.str (Str.ofString "seenrows.errors") 187)⟩, ⟨PyData.keyHash P (Str.ofString "__firstlineno__"), (.str (Str.ofString "__firstlineno__") 332), (.int 20 331)⟩, ⟨PyData.keyHash P (Str.ofString "__init__"), (.str (Str.ofString "__init__") 340), (.ref 127)⟩, ⟨PyData.keyHash P (Str.ofString "__static_attributes__"), (.str (Str.ofString "__static_attributes__") 342), (.ref 128)⟩, ⟨PyData.keyHash P (Str.ofString "__doc__"), (.str (Str.ofString "__doc__") 343), .none⟩] 2), #[]⟩) ::
  (nat_lit 130, ⟨(.type "type"), none, (.cls ⟨(Str.ofString "BadWidth"), [(.ref 24)], [(.ref 130), (.ref 24), (.type "ValueError"), (.type "Exception"), (.type "BaseException"), (.type "object")], 129, (Str.ofString "BadWidth"), true, [], [], false, none, false⟩), #[(some (.ref 114)), none, (some (.str (Str.ofString "BadWidth") 321)), (some (.str (Str.ofString "BadWidth") 329)), (some (.builtin "ValueError.__new__")), (some (.bool true))]⟩) ::
  (nat_lit 133, ⟨(.type "tuple"), none, (.seq #[(.ref 24)] 0), #[]⟩) ::
  (nat_lit 145, ⟨(.type "code"), none, (.fields #[(.str (Str.ofString "__init__") 358), (.str (Str.ofString "BadRow.__init__") 359), (.str (Str.ofString "/claim/cut.py") 360), (.int 26 0), (.int 2 0), (.int 0 0), (.int 0 0), (.int 3 0), (.ref 140), (.bool true), (.int 181 0), (.ref 141), .none, (.ref 142), (.ref 143), (.ref 144), (.int 363 0), (.int 26 0), (.str (Str.ofString "/claim/cut.py") 364)]), #[]⟩) ::
  (nat_lit 146, ⟨(.type "function"), none, (.func (PySem.W.fnOf (Str.ofString "__init__") (Str.ofString "BadRow.__init__") (defArgs (inClass (topS 9) 0)) (defBody (inClass (topS 9) 0)) (defScope (inClass (topS 9) 0)) .none .none .none (.str (Str.ofString "seenrows.errors") 187) none (.ref 145) .none)), #[]⟩) ::
  (nat_lit 148, ⟨(.type "dict"), none, (.dict #[⟨PyData.keyHash P (Str.ofString "__module__"), (.str (Str.ofString "__module__") 353), (.str (Str.ofString "seenrows.errors") 187)⟩, ⟨PyData.keyHash P (Str.ofString "__firstlineno__"), (.str (Str.ofString "__firstlineno__") 357), (.int 24 356)⟩, ⟨PyData.keyHash P (Str.ofString "__init__"), (.str (Str.ofString "__init__") 365), (.ref 146)⟩, ⟨PyData.keyHash P (Str.ofString "__static_attributes__"), (.str (Str.ofString "__static_attributes__") 367), (.ref 147)⟩, ⟨PyData.keyHash P (Str.ofString "__doc__"), (.str (Str.ofString "__doc__") 368), .none⟩] 2), #[]⟩) ::
  (nat_lit 149, ⟨(.type "type"), none, (.cls ⟨(Str.ofString "BadRow"), [(.ref 24)], [(.ref 149), (.ref 24), (.type "ValueError"), (.type "Exception"), (.type "BaseException"), (.type "object")], 148, (Str.ofString "BadRow"), true, [], [], false, none, false⟩), #[(some (.ref 133)), none, (some (.str (Str.ofString "BadRow") 346)), (some (.str (Str.ofString "BadRow") 354)), (some (.builtin "ValueError.__new__")), (some (.bool true))]⟩) ::
  (nat_lit 152, ⟨(.type "tuple"), none, (.seq #[(.ref 24)] 0), #[]⟩) ::
  (nat_lit 160, ⟨(.type "dict"), none, (.dict #[⟨PyData.keyHash P (Str.ofString "__module__"), (.str (Str.ofString "__module__") 378), (.str (Str.ofString "seenrows.errors") 187)⟩, ⟨PyData.keyHash P (Str.ofString "__firstlineno__"), (.str (Str.ofString "__firstlineno__") 382), (.int 28 381)⟩, ⟨PyData.keyHash P (Str.ofString "__static_attributes__"), (.str (Str.ofString "__static_attributes__") 383), (.ref 159)⟩, ⟨PyData.keyHash P (Str.ofString "__doc__"), (.str (Str.ofString "__doc__") 384), .none⟩] 2), #[]⟩) ::
  (nat_lit 161, ⟨(.type "type"), none, (.cls ⟨(Str.ofString "UnlikeTables"), [(.ref 24)], [(.ref 161), (.ref 24), (.type "ValueError"), (.type "Exception"), (.type "BaseException"), (.type "object")], 160, (Str.ofString "UnlikeTables"), true, [], [], false, none, false⟩), #[(some (.ref 152)), none, (some (.str (Str.ofString "UnlikeTables") 371)), (some (.str (Str.ofString "UnlikeTables") 379)), (some (.builtin "ValueError.__new__")), (some (.bool true))]⟩) ::
  (nat_lit 164, ⟨(.type "tuple"), none, (.seq #[(.ref 24)] 0), #[]⟩) ::
  (nat_lit 172, ⟨(.type "dict"), none, (.dict #[⟨PyData.keyHash P (Str.ofString "__module__"), (.str (Str.ofString "__module__") 394), (.str (Str.ofString "seenrows.errors") 187)⟩, ⟨PyData.keyHash P (Str.ofString "__firstlineno__"), (.str (Str.ofString "__firstlineno__") 398), (.int 30 397)⟩, ⟨PyData.keyHash P (Str.ofString "__static_attributes__"), (.str (Str.ofString "__static_attributes__") 399), (.ref 171)⟩, ⟨PyData.keyHash P (Str.ofString "__doc__"), (.str (Str.ofString "__doc__") 400), .none⟩] 2), #[]⟩) ::
  (nat_lit 173, ⟨(.type "type"), none, (.cls ⟨(Str.ofString "BadSequences"), [(.ref 24)], [(.ref 173), (.ref 24), (.type "ValueError"), (.type "Exception"), (.type "BaseException"), (.type "object")], 172, (Str.ofString "BadSequences"), true, [], [], false, none, false⟩), #[(some (.ref 164)), none, (some (.str (Str.ofString "BadSequences") 387)), (some (.str (Str.ofString "BadSequences") 395)), (some (.builtin "ValueError.__new__")), (some (.bool true))]⟩) ::
  (nat_lit 176, ⟨(.type "tuple"), none, (.seq #[(.ref 24)] 0), #[]⟩) ::
  (nat_lit 184, ⟨(.type "dict"), none, (.dict #[⟨PyData.keyHash P (Str.ofString "__module__"), (.str (Str.ofString "__module__") 410), (.str (Str.ofString "seenrows.errors") 187)⟩, ⟨PyData.keyHash P (Str.ofString "__firstlineno__"), (.str (Str.ofString "__firstlineno__") 414), (.int 32 413)⟩, ⟨PyData.keyHash P (Str.ofString "__static_attributes__"), (.str (Str.ofString "__static_attributes__") 415), (.ref 183)⟩, ⟨PyData.keyHash P (Str.ofString "__doc__"), (.str (Str.ofString "__doc__") 416), .none⟩] 2), #[]⟩) ::
  (nat_lit 185, ⟨(.type "type"), none, (.cls ⟨(Str.ofString "NoRows"), [(.ref 24)], [(.ref 185), (.ref 24), (.type "ValueError"), (.type "Exception"), (.type "BaseException"), (.type "object")], 184, (Str.ofString "NoRows"), true, [], [], false, none, false⟩), #[(some (.ref 176)), none, (some (.str (Str.ofString "NoRows") 403)), (some (.str (Str.ofString "NoRows") 411)), (some (.builtin "ValueError.__new__")), (some (.bool true))]⟩) ::
  (nat_lit 188, ⟨(.type "tuple"), none, (.seq #[(.ref 24)] 0), #[]⟩) ::
  (nat_lit 196, ⟨(.type "dict"), none, (.dict #[⟨PyData.keyHash P (Str.ofString "__module__"), (.str (Str.ofString "__module__") 426), (.str (Str.ofString "seenrows.errors") 187)⟩, ⟨PyData.keyHash P (Str.ofString "__firstlineno__"), (.str (Str.ofString "__firstlineno__") 430), (.int 34 429)⟩, ⟨PyData.keyHash P (Str.ofString "__static_attributes__"), (.str (Str.ofString "__static_attributes__") 431), (.ref 195)⟩, ⟨PyData.keyHash P (Str.ofString "__doc__"), (.str (Str.ofString "__doc__") 432), .none⟩] 2), #[]⟩) ::
  (nat_lit 197, ⟨(.type "type"), none, (.cls ⟨(Str.ofString "NotCase"), [(.ref 24)], [(.ref 197), (.ref 24), (.type "ValueError"), (.type "Exception"), (.type "BaseException"), (.type "object")], 196, (Str.ofString "NotCase"), true, [], [], false, none, false⟩), #[(some (.ref 188)), none, (some (.str (Str.ofString "NotCase") 419)), (some (.str (Str.ofString "NotCase") 427)), (some (.builtin "ValueError.__new__")), (some (.bool true))]⟩) ::
  (nat_lit 200, ⟨(.type "tuple"), none, (.seq #[(.ref 24)] 0), #[]⟩) ::
  (nat_lit 208, ⟨(.type "dict"), none, (.dict #[⟨PyData.keyHash P (Str.ofString "__module__"), (.str (Str.ofString "__module__") 442), (.str (Str.ofString "seenrows.errors") 187)⟩, ⟨PyData.keyHash P (Str.ofString "__firstlineno__"), (.str (Str.ofString "__firstlineno__") 446), (.int 36 445)⟩, ⟨PyData.keyHash P (Str.ofString "__static_attributes__"), (.str (Str.ofString "__static_attributes__") 447), (.ref 207)⟩, ⟨PyData.keyHash P (Str.ofString "__doc__"), (.str (Str.ofString "__doc__") 448), .none⟩] 2), #[]⟩) ::
  (nat_lit 209, ⟨(.type "type"), none, (.cls ⟨(Str.ofString "UnlikeWorlds"), [(.ref 24)], [(.ref 209), (.ref 24), (.type "ValueError"), (.type "Exception"), (.type "BaseException"), (.type "object")], 208, (Str.ofString "UnlikeWorlds"), true, [], [], false, none, false⟩), #[(some (.ref 200)), none, (some (.str (Str.ofString "UnlikeWorlds") 435)), (some (.str (Str.ofString "UnlikeWorlds") 443)), (some (.builtin "ValueError.__new__")), (some (.bool true))]⟩) ::
  (nat_lit 212, ⟨(.type "tuple"), none, (.seq #[(.ref 24)] 0), #[]⟩) ::
  (nat_lit 220, ⟨(.type "dict"), none, (.dict #[⟨PyData.keyHash P (Str.ofString "__module__"), (.str (Str.ofString "__module__") 458), (.str (Str.ofString "seenrows.errors") 187)⟩, ⟨PyData.keyHash P (Str.ofString "__firstlineno__"), (.str (Str.ofString "__firstlineno__") 462), (.int 38 461)⟩, ⟨PyData.keyHash P (Str.ofString "__static_attributes__"), (.str (Str.ofString "__static_attributes__") 463), (.ref 219)⟩, ⟨PyData.keyHash P (Str.ofString "__doc__"), (.str (Str.ofString "__doc__") 464), .none⟩] 2), #[]⟩) ::
  (nat_lit 221, ⟨(.type "type"), none, (.cls ⟨(Str.ofString "NotTold"), [(.ref 24)], [(.ref 221), (.ref 24), (.type "ValueError"), (.type "Exception"), (.type "BaseException"), (.type "object")], 220, (Str.ofString "NotTold"), true, [], [], false, none, false⟩), #[(some (.ref 212)), none, (some (.str (Str.ofString "NotTold") 451)), (some (.str (Str.ofString "NotTold") 459)), (some (.builtin "ValueError.__new__")), (some (.bool true))]⟩) ::
  (nat_lit 224, ⟨(.type "tuple"), none, (.seq #[(.ref 24)] 0), #[]⟩) ::
  (nat_lit 232, ⟨(.type "dict"), none, (.dict #[⟨PyData.keyHash P (Str.ofString "__module__"), (.str (Str.ofString "__module__") 474), (.str (Str.ofString "seenrows.errors") 187)⟩, ⟨PyData.keyHash P (Str.ofString "__firstlineno__"), (.str (Str.ofString "__firstlineno__") 478), (.int 40 477)⟩, ⟨PyData.keyHash P (Str.ofString "__static_attributes__"), (.str (Str.ofString "__static_attributes__") 479), (.ref 231)⟩, ⟨PyData.keyHash P (Str.ofString "__doc__"), (.str (Str.ofString "__doc__") 480), .none⟩] 2), #[]⟩) ::
  (nat_lit 233, ⟨(.type "type"), none, (.cls ⟨(Str.ofString "Impossible"), [(.ref 24)], [(.ref 233), (.ref 24), (.type "ValueError"), (.type "Exception"), (.type "BaseException"), (.type "object")], 232, (Str.ofString "Impossible"), true, [], [], false, none, false⟩), #[(some (.ref 224)), none, (some (.str (Str.ofString "Impossible") 467)), (some (.str (Str.ofString "Impossible") 475)), (some (.builtin "ValueError.__new__")), (some (.bool true))]⟩) ::
  (nat_lit 236, ⟨(.type "tuple"), none, (.seq #[(.ref 24)] 0), #[]⟩) ::
  (nat_lit 248, ⟨(.type "code"), none, (.fields #[(.str (Str.ofString "__init__") 495), (.str (Str.ofString "BadCount.__init__") 496), (.str (Str.ofString "/claim/cut.py") 497), (.int 44 0), (.int 2 0), (.int 0 0), (.int 0 0), (.int 3 0), (.ref 243), (.bool true), (.int 181 0), (.ref 244), .none, (.ref 245), (.ref 246), (.ref 247), (.int 500 0), (.int 44 0), (.str (Str.ofString "/claim/cut.py") 501)]), #[]⟩) ::
  (nat_lit 249, ⟨(.type "function"), none, (.func (PySem.W.fnOf (Str.ofString "__init__") (Str.ofString "BadCount.__init__") (defArgs (inClass (topS 17) 0)) (defBody (inClass (topS 17) 0)) (defScope (inClass (topS 17) 0)) .none .none .none (.str (Str.ofString "seenrows.errors") 187) none (.ref 248) .none)), #[]⟩) ::
  (nat_lit 251, ⟨(.type "dict"), none, (.dict #[⟨PyData.keyHash P (Str.ofString "__module__"), (.str (Str.ofString "__module__") 490), (.str (Str.ofString "seenrows.errors") 187)⟩, ⟨PyData.keyHash P (Str.ofString "__firstlineno__"), (.str (Str.ofString "__firstlineno__") 494), (.int 42 493)⟩, ⟨PyData.keyHash P (Str.ofString "__init__"), (.str (Str.ofString "__init__") 502), (.ref 249)⟩, ⟨PyData.keyHash P (Str.ofString "__static_attributes__"), (.str (Str.ofString "__static_attributes__") 504), (.ref 250)⟩, ⟨PyData.keyHash P (Str.ofString "__doc__"), (.str (Str.ofString "__doc__") 505), .none⟩] 2), #[]⟩) ::
  (nat_lit 252, ⟨(.type "type"), none, (.cls ⟨(Str.ofString "BadCount"), [(.ref 24)], [(.ref 252), (.ref 24), (.type "ValueError"), (.type "Exception"), (.type "BaseException"), (.type "object")], 251, (Str.ofString "BadCount"), true, [], [], false, none, false⟩), #[(some (.ref 236)), none, (some (.str (Str.ofString "BadCount") 483)), (some (.str (Str.ofString "BadCount") 491)), (some (.builtin "ValueError.__new__")), (some (.bool true))]⟩) ::
  (nat_lit 255, ⟨(.type "tuple"), none, (.seq #[(.ref 24)] 0), #[]⟩) ::
  (nat_lit 267, ⟨(.type "code"), none, (.fields #[(.str (Str.ofString "__init__") 520), (.str (Str.ofString "BadPlace.__init__") 521), (.str (Str.ofString "/claim/cut.py") 522), (.int 48 0), (.int 2 0), (.int 0 0), (.int 0 0), (.int 3 0), (.ref 262), (.bool true), (.int 181 0), (.ref 263), .none, (.ref 264), (.ref 265), (.ref 266), (.int 525 0), (.int 48 0), (.str (Str.ofString "/claim/cut.py") 526)]), #[]⟩) ::
  (nat_lit 268, ⟨(.type "function"), none, (.func (PySem.W.fnOf (Str.ofString "__init__") (Str.ofString "BadPlace.__init__") (defArgs (inClass (topS 18) 0)) (defBody (inClass (topS 18) 0)) (defScope (inClass (topS 18) 0)) .none .none .none (.str (Str.ofString "seenrows.errors") 187) none (.ref 267) .none)), #[]⟩) ::
  (nat_lit 270, ⟨(.type "dict"), none, (.dict #[⟨PyData.keyHash P (Str.ofString "__module__"), (.str (Str.ofString "__module__") 515), (.str (Str.ofString "seenrows.errors") 187)⟩, ⟨PyData.keyHash P (Str.ofString "__firstlineno__"), (.str (Str.ofString "__firstlineno__") 519), (.int 46 518)⟩, ⟨PyData.keyHash P (Str.ofString "__init__"), (.str (Str.ofString "__init__") 527), (.ref 268)⟩, ⟨PyData.keyHash P (Str.ofString "__static_attributes__"), (.str (Str.ofString "__static_attributes__") 529), (.ref 269)⟩, ⟨PyData.keyHash P (Str.ofString "__doc__"), (.str (Str.ofString "__doc__") 530), .none⟩] 2), #[]⟩) ::
  (nat_lit 271, ⟨(.type "type"), none, (.cls ⟨(Str.ofString "BadPlace"), [(.ref 24)], [(.ref 271), (.ref 24), (.type "ValueError"), (.type "Exception"), (.type "BaseException"), (.type "object")], 270, (Str.ofString "BadPlace"), true, [], [], false, none, false⟩), #[(some (.ref 255)), none, (some (.str (Str.ofString "BadPlace") 508)), (some (.str (Str.ofString "BadPlace") 516)), (some (.builtin "ValueError.__new__")), (some (.bool true))]⟩) ::
  (nat_lit 274, ⟨(.type "tuple"), none, (.seq #[(.ref 24)] 0), #[]⟩) ::
  (nat_lit 282, ⟨(.type "dict"), none, (.dict #[⟨PyData.keyHash P (Str.ofString "__module__"), (.str (Str.ofString "__module__") 540), (.str (Str.ofString "seenrows.errors") 187)⟩, ⟨PyData.keyHash P (Str.ofString "__firstlineno__"), (.str (Str.ofString "__firstlineno__") 544), (.int 50 543)⟩, ⟨PyData.keyHash P (Str.ofString "__static_attributes__"), (.str (Str.ofString "__static_attributes__") 545), (.ref 281)⟩, ⟨PyData.keyHash P (Str.ofString "__doc__"), (.str (Str.ofString "__doc__") 546), .none⟩] 2), #[]⟩) ::
  (nat_lit 283, ⟨(.type "type"), none, (.cls ⟨(Str.ofString "BadPlaces"), [(.ref 24)], [(.ref 283), (.ref 24), (.type "ValueError"), (.type "Exception"), (.type "BaseException"), (.type "object")], 282, (Str.ofString "BadPlaces"), true, [], [], false, none, false⟩), #[(some (.ref 274)), none, (some (.str (Str.ofString "BadPlaces") 533)), (some (.str (Str.ofString "BadPlaces") 541)), (some (.builtin "ValueError.__new__")), (some (.bool true))]⟩) ::
  (nat_lit 286, ⟨(.type "tuple"), none, (.seq #[(.ref 24)] 0), #[]⟩) ::
  (nat_lit 298, ⟨(.type "code"), none, (.fields #[(.str (Str.ofString "__init__") 561), (.str (Str.ofString "BadName.__init__") 562), (.str (Str.ofString "/claim/cut.py") 563), (.int 54 0), (.int 2 0), (.int 0 0), (.int 0 0), (.int 3 0), (.ref 293), (.bool true), (.int 181 0), (.ref 294), .none, (.ref 295), (.ref 296), (.ref 297), (.int 566 0), (.int 54 0), (.str (Str.ofString "/claim/cut.py") 567)]), #[]⟩) ::
  (nat_lit 299, ⟨(.type "function"), none, (.func (PySem.W.fnOf (Str.ofString "__init__") (Str.ofString "BadName.__init__") (defArgs (inClass (topS 20) 0)) (defBody (inClass (topS 20) 0)) (defScope (inClass (topS 20) 0)) .none .none .none (.str (Str.ofString "seenrows.errors") 187) none (.ref 298) .none)), #[]⟩) ::
  (nat_lit 301, ⟨(.type "dict"), none, (.dict #[⟨PyData.keyHash P (Str.ofString "__module__"), (.str (Str.ofString "__module__") 556), (.str (Str.ofString "seenrows.errors") 187)⟩, ⟨PyData.keyHash P (Str.ofString "__firstlineno__"), (.str (Str.ofString "__firstlineno__") 560), (.int 52 559)⟩, ⟨PyData.keyHash P (Str.ofString "__init__"), (.str (Str.ofString "__init__") 568), (.ref 299)⟩, ⟨PyData.keyHash P (Str.ofString "__static_attributes__"), (.str (Str.ofString "__static_attributes__") 570), (.ref 300)⟩, ⟨PyData.keyHash P (Str.ofString "__doc__"), (.str (Str.ofString "__doc__") 571), .none⟩] 2), #[]⟩) ::
  (nat_lit 302, ⟨(.type "type"), none, (.cls ⟨(Str.ofString "BadName"), [(.ref 24)], [(.ref 302), (.ref 24), (.type "ValueError"), (.type "Exception"), (.type "BaseException"), (.type "object")], 301, (Str.ofString "BadName"), true, [], [], false, none, false⟩), #[(some (.ref 286)), none, (some (.str (Str.ofString "BadName") 549)), (some (.str (Str.ofString "BadName") 557)), (some (.builtin "ValueError.__new__")), (some (.bool true))]⟩) ::
  (nat_lit 305, ⟨(.type "tuple"), none, (.seq #[(.ref 24)] 0), #[]⟩) ::
  (nat_lit 317, ⟨(.type "code"), none, (.fields #[(.str (Str.ofString "__init__") 586), (.str (Str.ofString "NoName.__init__") 587), (.str (Str.ofString "/claim/cut.py") 588), (.int 58 0), (.int 2 0), (.int 0 0), (.int 0 0), (.int 3 0), (.ref 312), (.bool true), (.int 181 0), (.ref 313), .none, (.ref 314), (.ref 315), (.ref 316), (.int 591 0), (.int 58 0), (.str (Str.ofString "/claim/cut.py") 592)]), #[]⟩) ::
  (nat_lit 318, ⟨(.type "function"), none, (.func (PySem.W.fnOf (Str.ofString "__init__") (Str.ofString "NoName.__init__") (defArgs (inClass (topS 21) 0)) (defBody (inClass (topS 21) 0)) (defScope (inClass (topS 21) 0)) .none .none .none (.str (Str.ofString "seenrows.errors") 187) none (.ref 317) .none)), #[]⟩) ::
  (nat_lit 320, ⟨(.type "dict"), none, (.dict #[⟨PyData.keyHash P (Str.ofString "__module__"), (.str (Str.ofString "__module__") 581), (.str (Str.ofString "seenrows.errors") 187)⟩, ⟨PyData.keyHash P (Str.ofString "__firstlineno__"), (.str (Str.ofString "__firstlineno__") 585), (.int 56 584)⟩, ⟨PyData.keyHash P (Str.ofString "__init__"), (.str (Str.ofString "__init__") 593), (.ref 318)⟩, ⟨PyData.keyHash P (Str.ofString "__static_attributes__"), (.str (Str.ofString "__static_attributes__") 595), (.ref 319)⟩, ⟨PyData.keyHash P (Str.ofString "__doc__"), (.str (Str.ofString "__doc__") 596), .none⟩] 2), #[]⟩) ::
  (nat_lit 321, ⟨(.type "type"), none, (.cls ⟨(Str.ofString "NoName"), [(.ref 24)], [(.ref 321), (.ref 24), (.type "ValueError"), (.type "Exception"), (.type "BaseException"), (.type "object")], 320, (Str.ofString "NoName"), true, [], [], false, none, false⟩), #[(some (.ref 305)), none, (some (.str (Str.ofString "NoName") 574)), (some (.str (Str.ofString "NoName") 582)), (some (.builtin "ValueError.__new__")), (some (.bool true))]⟩) ::
  (nat_lit 324, ⟨(.type "tuple"), none, (.seq #[(.ref 24)] 0), #[]⟩) ::
  (nat_lit 336, ⟨(.type "code"), none, (.fields #[(.str (Str.ofString "__init__") 611), (.str (Str.ofString "BadWord.__init__") 612), (.str (Str.ofString "/claim/cut.py") 613), (.int 62 0), (.int 2 0), (.int 0 0), (.int 0 0), (.int 3 0), (.ref 331), (.bool true), (.int 181 0), (.ref 332), .none, (.ref 333), (.ref 334), (.ref 335), (.int 616 0), (.int 62 0), (.str (Str.ofString "/claim/cut.py") 617)]), #[]⟩) ::
  (nat_lit 337, ⟨(.type "function"), none, (.func (PySem.W.fnOf (Str.ofString "__init__") (Str.ofString "BadWord.__init__") (defArgs (inClass (topS 22) 0)) (defBody (inClass (topS 22) 0)) (defScope (inClass (topS 22) 0)) .none .none .none (.str (Str.ofString "seenrows.errors") 187) none (.ref 336) .none)), #[]⟩) ::
  (nat_lit 339, ⟨(.type "dict"), none, (.dict #[⟨PyData.keyHash P (Str.ofString "__module__"), (.str (Str.ofString "__module__") 606), (.str (Str.ofString "seenrows.errors") 187)⟩, ⟨PyData.keyHash P (Str.ofString "__firstlineno__"), (.str (Str.ofString "__firstlineno__") 610), (.int 60 609)⟩, ⟨PyData.keyHash P (Str.ofString "__init__"), (.str (Str.ofString "__init__") 618), (.ref 337)⟩, ⟨PyData.keyHash P (Str.ofString "__static_attributes__"), (.str (Str.ofString "__static_attributes__") 620), (.ref 338)⟩, ⟨PyData.keyHash P (Str.ofString "__doc__"), (.str (Str.ofString "__doc__") 621), .none⟩] 2), #[]⟩) ::
  (nat_lit 340, ⟨(.type "type"), none, (.cls ⟨(Str.ofString "BadWord"), [(.ref 24)], [(.ref 340), (.ref 24), (.type "ValueError"), (.type "Exception"), (.type "BaseException"), (.type "object")], 339, (Str.ofString "BadWord"), true, [], [], false, none, false⟩), #[(some (.ref 324)), none, (some (.str (Str.ofString "BadWord") 599)), (some (.str (Str.ofString "BadWord") 607)), (some (.builtin "ValueError.__new__")), (some (.bool true))]⟩) ::
  (nat_lit 343, ⟨(.type "tuple"), none, (.seq #[(.ref 24)] 0), #[]⟩) ::
  (nat_lit 351, ⟨(.type "dict"), none, (.dict #[⟨PyData.keyHash P (Str.ofString "__module__"), (.str (Str.ofString "__module__") 631), (.str (Str.ofString "seenrows.errors") 187)⟩, ⟨PyData.keyHash P (Str.ofString "__firstlineno__"), (.str (Str.ofString "__firstlineno__") 635), (.int 64 634)⟩, ⟨PyData.keyHash P (Str.ofString "__static_attributes__"), (.str (Str.ofString "__static_attributes__") 636), (.ref 350)⟩, ⟨PyData.keyHash P (Str.ofString "__doc__"), (.str (Str.ofString "__doc__") 637), .none⟩] 2), #[]⟩) ::
  (nat_lit 352, ⟨(.type "type"), none, (.cls ⟨(Str.ofString "NothingToUndo"), [(.ref 24)], [(.ref 352), (.ref 24), (.type "ValueError"), (.type "Exception"), (.type "BaseException"), (.type "object")], 351, (Str.ofString "NothingToUndo"), true, [], [], false, none, false⟩), #[(some (.ref 343)), none, (some (.str (Str.ofString "NothingToUndo") 624)), (some (.str (Str.ofString "NothingToUndo") 632)), (some (.builtin "ValueError.__new__")), (some (.bool true))]⟩) ::
  (nat_lit 355, ⟨(.type "tuple"), none, (.seq #[(.ref 24)] 0), #[]⟩) ::
  (nat_lit 363, ⟨(.type "dict"), none, (.dict #[⟨PyData.keyHash P (Str.ofString "__module__"), (.str (Str.ofString "__module__") 647), (.str (Str.ofString "seenrows.errors") 187)⟩, ⟨PyData.keyHash P (Str.ofString "__firstlineno__"), (.str (Str.ofString "__firstlineno__") 651), (.int 66 650)⟩, ⟨PyData.keyHash P (Str.ofString "__static_attributes__"), (.str (Str.ofString "__static_attributes__") 652), (.ref 362)⟩, ⟨PyData.keyHash P (Str.ofString "__doc__"), (.str (Str.ofString "__doc__") 653), .none⟩] 2), #[]⟩) ::
  (nat_lit 364, ⟨(.type "type"), none, (.cls ⟨(Str.ofString "BadText"), [(.ref 24)], [(.ref 364), (.ref 24), (.type "ValueError"), (.type "Exception"), (.type "BaseException"), (.type "object")], 363, (Str.ofString "BadText"), true, [], [], false, none, false⟩), #[(some (.ref 355)), none, (some (.str (Str.ofString "BadText") 640)), (some (.str (Str.ofString "BadText") 648)), (some (.builtin "ValueError.__new__")), (some (.bool true))]⟩) ::
  (nat_lit 367, ⟨(.type "tuple"), none, (.seq #[(.ref 24)] 0), #[]⟩) ::
  (nat_lit 379, ⟨(.type "code"), none, (.fields #[(.str (Str.ofString "__init__") 668), (.str (Str.ofString "BadLine.__init__") 669), (.str (Str.ofString "/claim/cut.py") 670), (.int 70 0), (.int 2 0), (.int 0 0), (.int 0 0), (.int 3 0), (.ref 374), (.bool true), (.int 181 0), (.ref 375), .none, (.ref 376), (.ref 377), (.ref 378), (.int 673 0), (.int 70 0), (.str (Str.ofString "/claim/cut.py") 674)]), #[]⟩) ::
  (nat_lit 380, ⟨(.type "function"), none, (.func (PySem.W.fnOf (Str.ofString "__init__") (Str.ofString "BadLine.__init__") (defArgs (inClass (topS 25) 0)) (defBody (inClass (topS 25) 0)) (defScope (inClass (topS 25) 0)) .none .none .none (.str (Str.ofString "seenrows.errors") 187) none (.ref 379) .none)), #[]⟩) ::
  (nat_lit 382, ⟨(.type "dict"), none, (.dict #[⟨PyData.keyHash P (Str.ofString "__module__"), (.str (Str.ofString "__module__") 663), (.str (Str.ofString "seenrows.errors") 187)⟩, ⟨PyData.keyHash P (Str.ofString "__firstlineno__"), (.str (Str.ofString "__firstlineno__") 667), (.int 68 666)⟩, ⟨PyData.keyHash P (Str.ofString "__init__"), (.str (Str.ofString "__init__") 675), (.ref 380)⟩, ⟨PyData.keyHash P (Str.ofString "__static_attributes__"), (.str (Str.ofString "__static_attributes__") 677), (.ref 381)⟩, ⟨PyData.keyHash P (Str.ofString "__doc__"), (.str (Str.ofString "__doc__") 678), .none⟩] 2), #[]⟩) ::
  (nat_lit 383, ⟨(.type "type"), none, (.cls ⟨(Str.ofString "BadLine"), [(.ref 24)], [(.ref 383), (.ref 24), (.type "ValueError"), (.type "Exception"), (.type "BaseException"), (.type "object")], 382, (Str.ofString "BadLine"), true, [], [], false, none, false⟩), #[(some (.ref 367)), none, (some (.str (Str.ofString "BadLine") 656)), (some (.str (Str.ofString "BadLine") 664)), (some (.builtin "ValueError.__new__")), (some (.bool true))]⟩) ::
  (nat_lit 389, ⟨(.type "code"), none, (.fields #[(.str (Str.ofString "_law_box") 683), (.str (Str.ofString "_law_box") 684), (.str (Str.ofString "/claim/cut.py") 685), (.int 73 0), (.int 1 0), (.int 0 0), (.int 0 0), (.int 3 0), (.ref 386), (.bool true), (.int 181 0), (.ref 387), .none, .none, .none, (.ref 388), (.int 686 0), (.int 73 0), (.str (Str.ofString "/claim/cut.py") 687)]), #[]⟩) ::
  (nat_lit 390, ⟨(.type "function"), none, (.func (PySem.W.fnOf (Str.ofString "_law_box") (Str.ofString "_law_box") (defArgs (topS 27)) (defBody (topS 27)) (defScope (topS 27)) .none .none .none (.str (Str.ofString "law_seenrows_k27_errors_made") 681) none (.ref 389) .none)), #[]⟩) ::
  (nat_lit 396, ⟨(.type "code"), none, (.fields #[(.str (Str.ofString "_law_take") 689), (.str (Str.ofString "_law_take") 690), (.str (Str.ofString "/claim/cut.py") 691), (.int 75 0), (.int 2 0), (.int 0 0), (.int 0 0), (.int 3 0), (.ref 391), (.bool true), (.int 181 0), (.ref 392), .none, (.ref 393), (.ref 394), (.ref 395), (.int 698 0), (.int 75 0), (.str (Str.ofString "/claim/cut.py") 699)]), #[]⟩) ::
  (nat_lit 397, ⟨(.type "function"), none, (.func (PySem.W.fnOf (Str.ofString "_law_take") (Str.ofString "_law_take") (defArgs (topS 28)) (defBody (topS 28)) (defScope (topS 28)) .none .none .none (.str (Str.ofString "law_seenrows_k27_errors_made") 681) none (.ref 396) .none)), #[]⟩) ::
  (nat_lit 403, ⟨(.type "code"), none, (.fields #[(.str (Str.ofString "_law_pick") 701), (.str (Str.ofString "_law_pick") 702), (.str (Str.ofString "/claim/cut.py") 703), (.int 87 0), (.int 2 0), (.int 0 0), (.int 0 0), (.int 3 0), (.ref 398), (.bool true), (.int 181 0), (.ref 399), .none, (.ref 400), (.ref 401), (.ref 402), (.int 706 0), (.int 87 0), (.str (Str.ofString "/claim/cut.py") 707)]), #[]⟩) ::
  (nat_lit 404, ⟨(.type "function"), none, (.func (PySem.W.fnOf (Str.ofString "_law_pick") (Str.ofString "_law_pick") (defArgs (topS 29)) (defBody (topS 29)) (defScope (topS 29)) .none .none .none (.str (Str.ofString "law_seenrows_k27_errors_made") 681) none (.ref 403) .none)), #[]⟩) ::
  (nat_lit 410, ⟨(.type "code"), none, (.fields #[(.str (Str.ofString "_law_with_fields") 709), (.str (Str.ofString "_law_with_fields") 710), (.str (Str.ofString "/claim/cut.py") 711), (.int 89 0), (.int 1 0), (.int 0 0), (.int 0 0), (.int 3 0), (.ref 405), (.bool true), (.int 181 0), (.ref 406), .none, (.ref 407), (.ref 408), (.ref 409), (.int 714 0), (.int 89 0), (.str (Str.ofString "/claim/cut.py") 715)]), #[]⟩) ::
  (nat_lit 411, ⟨(.type "function"), none, (.func (PySem.W.fnOf (Str.ofString "_law_with_fields") (Str.ofString "_law_with_fields") (defArgs (topS 30)) (defBody (topS 30)) (defScope (topS 30)) .none .none .none (.str (Str.ofString "law_seenrows_k27_errors_made") 681) none (.ref 410) .none)), #[]⟩) ::
  (nat_lit 417, ⟨(.type "code"), none, (.fields #[(.str (Str.ofString "_law_fields") 717), (.str (Str.ofString "_law_fields") 718), (.str (Str.ofString "/claim/cut.py") 719), (.int 95 0), (.int 1 0), (.int 0 0), (.int 0 0), (.int 3 0), (.ref 412), (.bool true), (.int 181 0), (.ref 413), .none, (.ref 414), (.ref 415), (.ref 416), (.int 722 0), (.int 95 0), (.str (Str.ofString "/claim/cut.py") 723)]), #[]⟩) ::
  (nat_lit 418, ⟨(.type "function"), none, (.func (PySem.W.fnOf (Str.ofString "_law_fields") (Str.ofString "_law_fields") (defArgs (topS 31)) (defBody (topS 31)) (defScope (topS 31)) .none .none .none (.str (Str.ofString "law_seenrows_k27_errors_made") 681) none (.ref 417) .none)), #[]⟩) ::
  (nat_lit 424, ⟨(.type "code"), none, (.fields #[(.str (Str.ofString "_law_plain_ones") 725), (.str (Str.ofString "_law_plain_ones") 726), (.str (Str.ofString "/claim/cut.py") 727), (.int 98 0), (.int 0 0), (.int 0 0), (.int 0 0), (.int 3 0), (.ref 419), (.bool true), (.int 181 0), (.ref 420), .none, (.ref 421), (.ref 422), (.ref 423), (.int 729 0), (.int 98 0), (.str (Str.ofString "/claim/cut.py") 730)]), #[]⟩) ::
  (nat_lit 425, ⟨(.type "function"), none, (.func (PySem.W.fnOf (Str.ofString "_law_plain_ones") (Str.ofString "_law_plain_ones") (defArgs (topS 32)) (defBody (topS 32)) (defScope (topS 32)) .none .none .none (.str (Str.ofString "law_seenrows_k27_errors_made") 681) none (.ref 424) .none)), #[]⟩) ::
  (nat_lit 431, ⟨(.type "code"), none, (.fields #[(.str (Str.ofString "_law_classes") 732), (.str (Str.ofString "_law_classes") 733), (.str (Str.ofString "/claim/cut.py") 734), (.int 101 0), (.int 1 0), (.int 0 0), (.int 0 0), (.int 3 0), (.ref 426), (.bool true), (.int 181 0), (.ref 427), .none, (.ref 428), (.ref 429), (.ref 430), (.int 737 0), (.int 101 0), (.str (Str.ofString "/claim/cut.py") 738)]), #[]⟩) ::
  (nat_lit 432, ⟨(.type "function"), none, (.func (PySem.W.fnOf (Str.ofString "_law_classes") (Str.ofString "_law_classes") (defArgs (topS 33)) (defBody (topS 33)) (defScope (topS 33)) .none .none .none (.str (Str.ofString "law_seenrows_k27_errors_made") 681) none (.ref 431) .none)), #[]⟩) ::
  (nat_lit 436, ⟨(.type "code"), none, (.fields #[(.str (Str.ofString "law") 740), (.str (Str.ofString "law") 741), (.str (Str.ofString "/claim/cut.py") 742), (.int 110 0), (.int 1 0), (.int 0 0), (.int 0 0), (.int 3 0), (.ref 433), (.bool true), (.int 181 0), (.ref 434), .none, .none, .none, (.ref 435), (.int 743 0), (.int 110 0), (.str (Str.ofString "/claim/cut.py") 744)]), #[]⟩) ::
  (nat_lit 437, ⟨(.type "function"), none, (.func (PySem.W.fnOf (Str.ofString "law") (Str.ofString "law") (defArgs (topS 34)) (defBody (topS 34)) (defScope (topS 34)) .none .none .none (.str (Str.ofString "law_seenrows_k27_errors_made") 681) none (.ref 436) .none)), #[]⟩) :: []
def KA : List Addr := [nat_lit 2, nat_lit 3, nat_lit 15, nat_lit 23, nat_lit 24, nat_lit 28, nat_lit 40, nat_lit 41, nat_lit 43, nat_lit 44, nat_lit 47, nat_lit 59, nat_lit 60, nat_lit 62, nat_lit 63, nat_lit 66, nat_lit 74, nat_lit 75, nat_lit 78, nat_lit 86, nat_lit 87, nat_lit 90, nat_lit 98, nat_lit 99, nat_lit 102, nat_lit 110, nat_lit 111, nat_lit 114, nat_lit 126, nat_lit 127, nat_lit 129, nat_lit 130, nat_lit 133, nat_lit 145, nat_lit 146, nat_lit 148, nat_lit 149, nat_lit 152, nat_lit 160, nat_lit 161, nat_lit 164, nat_lit 172, nat_lit 173, nat_lit 176, nat_lit 184, nat_lit 185, nat_lit 188, nat_lit 196, nat_lit 197, nat_lit 200, nat_lit 208, nat_lit 209, nat_lit 212, nat_lit 220, nat_lit 221, nat_lit 224, nat_lit 232, nat_lit 233, nat_lit 236, nat_lit 248, nat_lit 249, nat_lit 251, nat_lit 252, nat_lit 255, nat_lit 267, nat_lit 268, nat_lit 270, nat_lit 271, nat_lit 274, nat_lit 282, nat_lit 283, nat_lit 286, nat_lit 298, nat_lit 299, nat_lit 301, nat_lit 302, nat_lit 305, nat_lit 317, nat_lit 318, nat_lit 320, nat_lit 321, nat_lit 324, nat_lit 336, nat_lit 337, nat_lit 339, nat_lit 340, nat_lit 343, nat_lit 351, nat_lit 352, nat_lit 355, nat_lit 363, nat_lit 364, nat_lit 367, nat_lit 379, nat_lit 380, nat_lit 382, nat_lit 383, nat_lit 389, nat_lit 390, nat_lit 396, nat_lit 397, nat_lit 403, nat_lit 404, nat_lit 410, nat_lit 411, nat_lit 417, nat_lit 418, nat_lit 424, nat_lit 425, nat_lit 431, nat_lit 432, nat_lit 436, nat_lit 437]
def LO : List PySem.Str := ([PySem.Str.ofString "__name__", PySem.Str.ofString "SeenError", PySem.Str.ofString "BadPrime", PySem.Str.ofString "BadTerm", PySem.Str.ofString "UnlikePrimes", PySem.Str.ofString "ZeroFilter", PySem.Str.ofString "BadRule", PySem.Str.ofString "BadDigits", PySem.Str.ofString "BadWidth", PySem.Str.ofString "BadRow", PySem.Str.ofString "UnlikeTables", PySem.Str.ofString "BadSequences", PySem.Str.ofString "NoRows", PySem.Str.ofString "NotCase", PySem.Str.ofString "UnlikeWorlds", PySem.Str.ofString "NotTold", PySem.Str.ofString "Impossible", PySem.Str.ofString "BadCount", PySem.Str.ofString "BadPlace", PySem.Str.ofString "BadPlaces", PySem.Str.ofString "BadName", PySem.Str.ofString "NoName", PySem.Str.ofString "BadWord", PySem.Str.ofString "NothingToUndo", PySem.Str.ofString "BadText", PySem.Str.ofString "BadLine", PySem.Str.ofString "_law_box", PySem.Str.ofString "_law_take", PySem.Str.ofString "_law_pick", PySem.Str.ofString "_law_with_fields", PySem.Str.ofString "_law_fields", PySem.Str.ofString "_law_plain_ones", PySem.Str.ofString "_law_classes"] : List PySem.Str)
def VV : PySem.Program := PySem.W.view PySem.Challenge.pw_seenrows_k27_errors_made [34]
end SR
lay_quick PySem.Challenge.pw_seenrows_k27_errors_made SR.KK0 SR.KK1 SR.VV SR.LO
set_option maxRecDepth 100000
set_option maxHeartbeats 0
namespace SR
open PySem PySem.W HeadRun PyProof.Rows PySem.Calls
theorem look_l (w : World) (os : OsState) : (endF (stepQ (denQ tabQ) PySem.W.Fast.tw8146589217186409316 w) 5984 PySem.W.Fast.tw8146589217186409316 w os).map (fun s => looksF PySem.W.Fast.tw8146589217186409316 (boot_heap w.params) s.abs) = some true := by kernel_rfl
theorem look_s (w : World) (os : OsState) : (endF (stepQ (denQ tabQ) PySem.W.Fast.tw8146589217186409316 w) 5984 PySem.W.Fast.tw8146589217186409316 w os).map (fun s => seenQ PySem.W.Fast.tw12481167789305635118 PySem.W.Fast.tw4387945433670703405 (importedModules PySem.W.Fast.tw8146589217186409316.main.body) (fun s => xlAt PySem.W.Fast.tw12481167789305635118 [] s && recOk (RowW.records (OpenRow.toRowW (PySem.W.OpenLaw.row PySem.Challenge.rw_seenrows_k27_errors_made))) s) s.abs) = some (openGood PySem.W.Fast.tw12481167789305635118 PySem.W.Fast.tw4387945433670703405) := by kernel_rfl
theorem look_k0 (w : World) (os : OsState) : (endF (stepQ (denQ tabQ) PySem.W.Fast.tw8146589217186409316 w) 5984 PySem.W.Fast.tw8146589217186409316 w os).map (fun s => KA0.map (getT s)) = some ((PySem.W.Fast.tw8986227453893839255 w.params).map fun x => some x.2) := by kernel_rfl
theorem look_k1 (w : World) (os : OsState) : (endF (stepQ (denQ tabQ) PySem.W.Fast.tw8146589217186409316 w) 5984 PySem.W.Fast.tw8146589217186409316 w os).map (fun s => KA1.map (getT s)) = some ((PySem.W.Fast.tw17149621385884660539 w.params).map fun x => some x.2) := by kernel_rfl
theorem map_app {α β γ : Type} {x : Option α} {as bs : List β} {g : α → β → γ} {c d : List γ} (h1 : Option.map (fun s => as.map (g s)) x = some c) (h2 : Option.map (fun s => bs.map (g s)) x = some d) : Option.map (fun s => (as ++ bs).map (g s)) x = some (c ++ d) := by
  cases x with
  | none => cases h1
  | some s =>
    have e1 : as.map (g s) = c := Option.some.inj h1
    have e2 : bs.map (g s) = d := Option.some.inj h2
    show some ((as ++ bs).map (g s)) = _
    rw [List.map_append, e1, e2]
theorem triple {α β γ δ : Type} {x : Option α} {f : α → β} {g : α → γ} {h : α → δ} {b : β} {c : γ} {d : δ} (h1 : Option.map f x = some b) (h2 : Option.map g x = some c) (h3 : Option.map h x = some d) : Option.map (fun s => (f s, g s, h s)) x = some (b, c, d) := by
  cases x with
  | none => cases h1
  | some s =>
    have e1 : f s = b := Option.some.inj h1
    have e2 : g s = c := Option.some.inj h2
    have e3 : h s = d := Option.some.inj h3
    show some (f s, g s, h s) = some (b, c, d)
    rw [e1, e2, e3]
theorem ka_eq : KA = (KA0 ++ KA1) := by kernel_rfl
theorem kk_eq (P : Params) : KK P = (KK0 P ++ KK1 P) := by kernel_rfl
theorem kk_as (P : Params) : KA = (KK P).map (·.1) := by kernel_rfl
theorem look_k (w : World) (os : OsState) : (endF (stepQ (denQ tabQ) PySem.W.Fast.tw8146589217186409316 w) 5984 PySem.W.Fast.tw8146589217186409316 w os).map (fun s => KA.map (getT s)) = some ((KK w.params).map fun x => some x.2) := by
  rw [ka_eq, kk_eq, List.map_append, show KK0 = PySem.W.Fast.tw8986227453893839255 from PySem.W.Fast.te8986227453893839255, show KK1 = PySem.W.Fast.tw17149621385884660539 from PySem.W.Fast.te17149621385884660539]
  exact map_app (look_k0 w os) (look_k1 w os)
theorem run_all (w : World) : RunEq (PySem.W.OpenLaw.row PySem.Challenge.rw_seenrows_k27_errors_made) VV (kHook KK KA kk_as) (fun s => KA.map (getT s)) 5984 LO w := by
  intro os
  show (endF (stepQ (denQ tabQ) PySem.Challenge.pw_seenrows_k27_errors_made w) 5984 PySem.Challenge.pw_seenrows_k27_errors_made w os).map (fun s => (looksF PySem.Challenge.pw_seenrows_k27_errors_made (boot_heap w.params) s.abs, seenQ VV LO (importedModules PySem.Challenge.pw_seenrows_k27_errors_made.main.body) (fun s => xlAt VV [] s && recOk (RowW.records (OpenRow.toRowW (PySem.W.OpenLaw.row PySem.Challenge.rw_seenrows_k27_errors_made))) s) s.abs, KA.map (getT s))) = some (true, openGood VV LO, (KK w.params).map fun x => some x.2)
  rw [show PySem.Challenge.pw_seenrows_k27_errors_made = PySem.W.Fast.tw8146589217186409316 from PySem.W.Fast.te8146589217186409316, show VV = PySem.W.Fast.tw12481167789305635118 from PySem.W.Fast.te12481167789305635118, show LO = PySem.W.Fast.tw4387945433670703405 from PySem.W.Fast.te4387945433670703405]
  exact triple (look_l w os) (look_s w os) (look_k w os)
theorem ob_eq (s : SharedT) : (KA.map (getT s)) = (kHook KK KA kk_as).obs s.abs := List.map_congr_left fun a _ => getT_eq s a
end SR
set_option maxRecDepth 100000
set_option maxHeartbeats 4000000
namespace SR
open PySem PySem.Spec PyProof.Rows L2 Evl
section
variable {P : Program} {w : World} {K : PySem.W.Frag} {mg : Str → Option Value} {base : Heap} {ω : Type} {O : OI ω}
theorem toPL_ints {l : List Int} : PyData.canLayAll0 (toPL (ω := ω) (l.map D.int)) = true ∧ PyData.depthAll (toPL (ω := ω) (l.map D.int)) = 0 := by
  induction l with
  | nil => exact ⟨rfl, rfl⟩
  | cons n r ih =>
    refine ⟨?_, ?_⟩
    · show (PyData.canLay0 (.int n) && PyData.canLayAll0 (toPL (r.map D.int))) = true
      rw [ih.1]
      rfl
    · show max (PyData.depth (.int n)) (PyData.depthAll (toPL (r.map D.int))) = 0
      rw [ih.2]
      rfl
/-- xs == [] for a list of ints -/
theorem ev_eqNilI {ta : TE} {σ : L2.St} {H : Hp} {q : Addr} {cells : List Int} (h : Ev ta σ H (.ref q)) (hq : H q = some (.lst (cells.map V.int))) : Ev (tOp (rEqD K) ta (tLst tNil)) σ H (.bl cells.isEmpty) := fun H1 e Q k =>
  h H1 e _ fun H2 e2 => ⟨by show 0 ≤ sizeLine; exact Nat.zero_le _, fun p hp => by
    have hq2 : H2 q = some (.lst (cells.map V.int)) := e2 q _ (e q _ hq)
    have hq3 : (upd H2 p (.lst [])) q = some (.lst (cells.map V.int)) := (Ex.new hp) q _ hq2
    have ht := toPL_ints (ω := Unit) (l := cells)
    refine ⟨.list (toPL (ω := Unit) (cells.map D.int)), .list [], .lst (sq_of hq3) ?_, .lst (sq_of upd_same) .nil, ?_, rfl, ?_⟩
    · exact dpl_of (O := ⟨fun _ _ _ => True, fun _ h => h⟩) (H := upd H2 p (.lst [])) noObj_ints (AtL.ints)
    · show (PyData.canLayAll0 (toPL (cells.map D.int)) && decide (PyData.depthAll (toPL (ω := Unit) (cells.map D.int)) + 1 ≤ 64)) = true
      rw [ht.1, ht.2]
      rfl
    · have e3 : (PyData.eqv (.list (toPL (ω := Unit) (cells.map D.int))) (.list [])) = cells.isEmpty := by cases cells <;> rfl
      rw [e3]
      exact k _ (e2.trans (Ex.new hp))⟩
/-- xs != [] for a list of ints -/
theorem ev_neNil {ta : TE} {σ : L2.St} {H : Hp} {q : Addr} {cells : List Int} (h : Ev ta σ H (.ref q)) (hq : H q = some (.lst (cells.map V.int))) : Ev (tOp (rNeD K) ta (tLst tNil)) σ H (.bl (!cells.isEmpty)) := fun H1 e Q k =>
  h H1 e _ fun H2 e2 => ⟨by show 0 ≤ sizeLine; exact Nat.zero_le _, fun p hp => by
    have hq2 : H2 q = some (.lst (cells.map V.int)) := e2 q _ (e q _ hq)
    have hq3 : (upd H2 p (.lst [])) q = some (.lst (cells.map V.int)) := (Ex.new hp) q _ hq2
    have ht := toPL_ints (ω := Unit) (l := cells)
    refine ⟨.list (toPL (ω := Unit) (cells.map D.int)), .list [], .lst (sq_of hq3) ?_, .lst (sq_of upd_same) .nil, ?_, rfl, ?_⟩
    · exact dpl_of (O := ⟨fun _ _ _ => True, fun _ h => h⟩) (H := upd H2 p (.lst [])) noObj_ints (AtL.ints)
    · show (PyData.canLayAll0 (toPL (cells.map D.int)) && decide (PyData.depthAll (toPL (ω := Unit) (cells.map D.int)) + 1 ≤ 64)) = true
      rw [ht.1, ht.2]
      rfl
    · have e3 : (!PyData.eqv (.list (toPL (ω := Unit) (cells.map D.int))) (.list [])) = !cells.isEmpty := by cases cells <;> rfl
      rw [e3]
      exact k _ (e2.trans (Ex.new hp))⟩
/-! ### _law_take -/
def pDraw : List (D ω) → Prop := fun ds => ∃ many, ds = [.int many] ∧ 0 < many ∧ many < 1073741824
def rDraw : List (D ω) → D ω → Prop := fun ds d => ∃ many x, ds = [.int many] ∧ d = .int x ∧ 0 ≤ x ∧ x < many
theorem atI_int {cells : List Int} {i : Int} (h0 : 0 ≤ i) (h1 : i < cells.length) : ∃ c : Int, atI (cells.map V.int) i = some (.int c) := by
  have hx : i.toNat < cells.length := by omega
  refine ⟨cells[i.toNat], ?_⟩
  have := atI_nat (xs := cells.map V.int) (j := i.toNat) (v := .int cells[i.toNat]) (by rw [List.getElem?_map, List.getElem?_eq_getElem hx]; rfl)
  rwa [show ((i.toNat : Nat) : Int) = i by omega] at this
abbrev _law_take_S : Stmt := topS 28
abbrev _law_take_N : List Str := ["_law_box_here", "_law_size", "_law_cell", "_law_whole", "_law_mixed", "_law_digit"]
theorem _law_take_sc : FnScope _law_take_N ["_law_box_here", "_law_size"] (defScope _law_take_S) := ⟨rfl, rfl, rfl, by decide +kernel, rfl, by decide +kernel, by decide +kernel⟩
theorem ok_draw {f : Addr} {fd : FuncData} (F : Fun K "_law_take" "_law_take" _law_take_S f fd) (B : Bi mg) : FnOk P w K mg base CX0 1 f fd ["_law_box_here", "_law_size"] (SpX K O 1 pDraw rDraw) := by
  refine F.ok _law_take_sc (fun vs H Q E h => ?_) (fun cdv A outer s0 H vs Q E hr h => ?_)
  · obtain ⟨G, s, q, n, ds, ws, rfl, e, gs, gq, spr, hn, as, ⟨many, rfl, h0, h1⟩, k⟩ := h
    show (V.ref s :: ws).length = 2
    rw [List.length_cons, as.len]
    rfl
  · obtain ⟨G, s, q, n, ds, ws, rfl, e, gs, gq, spr, hn, as, ⟨many, rfl, h0, h1⟩, k⟩ := h
    obtain ⟨v, r0, rfl, a, nn⟩ := atL_cons.mp as
    obtain rfl := atL_nil.mp nn
    obtain rfl := at_int.mp a
    have hu := hu_of hr
    have hsq := spr.ne
    obtain ⟨cells, rst, r, u, m, hs, hq, hrr, hrs, hrq, hc, hc2, hm0, hmn⟩ := spr.ex
    refine ⟨_, (pss_cons (ps_asg (pe_op op_add (pe_ixLK K (pv 0) pe_int (fun _ _ => rfl)) pe_int) (pg_sub (pv 0) pe_int set_list))
    (pss_cut (ps_if (PW.pt (pw_and (pt_cmpR op_eq (pe_ixLK K (pv 0) pe_int (fun _ _ => rfl)) pe_int (nomark _)) (pw_and1 (pt_cmpR op_gt (pe_callB (call_lenK K) (by rfl) B.len (by decide +kernel) (pa_cons (pe_ixLK K (pv 0) pe_int (fun _ _ => rfl)) pa_nil)) pe_int (nomark _))))) (pss_one (ps_asg (pe_bm PySem.F.plainAttrs_list PySem.F.slot_list_pop PySem.F.type_list_pop mt_popAt (pe_ixLK K (pv 0) pe_int (fun _ _ => rfl)) (pa_cons pe_int pa_nil)) (pg_sub (pv 0) pe_int set_list))) pss_nil)
    (pss_cons (ps_if (pt_cmpR op_gt (pe_ixLK K (pv 0) pe_int (fun _ _ => rfl)) pe_int (nomark _)) (pss_cons (ps_set (i := 5) _law_take_sc.nd rfl (Or.inl rfl) (pe_op op_modN (pe_callTy call_int1 (by rfl) B.int (by decide +kernel) (pa_cons (pe_ixLK K (pv 0) pe_int (fun _ _ => rfl)) pa_nil)) (pv 1)))
    (pss_cons (ps_asg (pe_op op_fdivN (pe_ixLK K (pv 0) pe_int (fun _ _ => rfl)) (pv 1)) (pg_sub (pv 0) pe_int set_list))
    (pss_one (ps_ret (pv 5))))) pss_nil)
    (pss_cons (ps_set (i := 2) _law_take_sc.nd rfl (Or.inl rfl) (pe_ifExp (pt_cmpR (op_eqD hr.units) (pe_ixLK K (pv 0) pe_int (fun _ _ => rfl)) (pe_lst pa_nil) (nomark _)) (pe_op op_mul pe_int (pe_ixLK K (pv 0) pe_int (fun _ _ => rfl))) (pe_ixLK K (pe_ixLK K (pv 0) pe_int (fun _ _ => rfl)) (pe_op op_modN (pe_callTy call_int1 (by rfl) B.int (by decide +kernel) (pa_cons (pe_ixLK K (pv 0) pe_int (fun _ _ => rfl)) pa_nil)) (pe_callB (call_lenK K) (by rfl) B.len (by decide +kernel) (pa_cons (pe_ixLK K (pv 0) pe_int (fun _ _ => rfl)) pa_nil))) (fun _ _ => rfl))))
    (pss_cons (ps_set (i := 3) _law_take_sc.nd rfl (Or.inl rfl) (pe_op op_add (pe_op op_modN (pe_callTy call_int1 (by rfl) B.int (by decide +kernel) (pa_cons (pv 2) pa_nil)) pe_int) (pe_op op_mul (pe_op op_mul pe_int (pe_ixLK K (pv 0) pe_int (fun _ _ => rfl))) (pe_ixLK K (pv 0) pe_int (fun _ _ => rfl)))))
    (pss_cons (ps_set (i := 4) _law_take_sc.nd rfl (Or.inl rfl) (pe_op op_modN (pe_op op_pow (pe_callTy call_int1 (by rfl) B.int (by decide +kernel) (pa_cons (pe_op op_add (pe_op op_add (pv 3) (pe_op op_mul pe_int (pe_ixLK K (pv 0) pe_int (fun _ _ => rfl)))) pe_int) pa_nil)) pe_int) pe_int))
    (pss_one (ps_ret (pe_op op_modN (pe_op op_fdivN (pe_op op_modN (pe_callTy call_int1 (by rfl) B.int (by decide +kernel) (pa_cons (pe_op op_add (pe_op op_mul (pv 4) pe_int) (pe_op op_mul pe_int (pe_ixLK K (pv 0) pe_int (fun _ _ => rfl)))) pa_nil)) pe_int) pe_int) (pv 1)))))))))), ?_⟩
    refine q_setL (j := 3) (v := .int (m + 1)) hs (ev_op (ev_op (ev_var (i := 0) rfl) ev_c (rv_ixL (sq_of hs) rfl)) ev_c rv_I0) (ev_var (i := 0) rfl) ev_c (by show 3 < 4; decide) fun H1 e1 => ?_
    have l1 : LeX s q G H G (upd H1 s (.lst [.ref q, .int u, .ref r, .int (m + 1)])) := (Le.heap e e1).x.mutS gs
    have hs1 : (upd H1 s (.lst [.ref q, .int u, .ref r, .int (m + 1)])) s = some (.lst [.ref q, .int u, .ref r, .int (m + 1)]) := upd_same
    have hq1 : (upd H1 s (.lst [.ref q, .int u, .ref r, .int (m + 1)])) q = some (.lst (cells.map V.int)) := by rw [upd_ne (Ne.symm hsq)]; exact e1 q _ hq
    have hr1 : (upd H1 s (.lst [.ref q, .int u, .ref r, .int (m + 1)])) r = some (.lst (rst.map V.int)) := by rw [upd_ne hrs]; exact e1 r _ hrr
    generalize hH2 : upd H1 s (.lst [.ref q, .int u, .ref r, .int (m + 1)]) = H2 at l1 hs1 hq1 hr1
    have hH2' : (upd H1 s (.lst (([V.ref q, .int u, .ref r, .int m]).set 3 (.int (m + 1))))) = H2 := hH2
    rw [hH2']
    refine q_cut (M := fun σ' H' => σ' = [some (.ref s), some (.int many), none, none, none, none] ∧ LeX s q G H G H' ∧ ∃ (cells' : List Int) (u' : Int), H' s = some (.lst [.ref q, .int u', .ref r, .int (m + 1)]) ∧ H' q = some (.lst (cells'.map V.int)) ∧ H' r = some (.lst (rst.map V.int)) ∧ cells'.length ≤ 63) ?_ ?_
    · have t1 : Ev (tOp (rIxL K) (tVar 0) (tC (.int 1))) [some (.ref s), some (.int many), none, none, none, none] H2 (.int u) := ev_op (ev_var rfl) ev_c (rv_ixL (sq_of hs1) rfl)
      have t0 : Ev (tOp (rIxL K) (tVar 0) (tC (.int 0))) [some (.ref s), some (.int many), none, none, none, none] H2 (.ref q) := ev_op (ev_var rfl) ev_c (rv_ixL (sq_of hs1) rfl)
      have tl : Ev (tCB (fun xs H Q => ∃ p ys, xs = [V.ref p] ∧ (SqL K H p ys ∨ SqT K H p ys) ∧ Q (.int ys.length) H) (tCons (tOp (rIxL K) (tVar 0) (tC (.int 0))) tNil)) [some (.ref s), some (.int many), none, none, none, none] H2 (.int (cells.length : Int)) := fun H3 e3 Q3 k3 => t0 H3 e3 _ fun H4 e4 => ⟨q, _, rfl, Or.inl (sq_of (e4 _ _ (e3 _ _ hq1))), by rw [List.length_map]; exact k3 H4 e4⟩
      refine s_ifG (b := decide (V.int u = V.int 0) && decide ((0 : Int) < (cells.length : Int))) (et_and (et_test (ev_op t1 ev_c (rv_eq rfl))) fun _ => et_test (ev_op tl ev_c rv_I0)) (Ex.refl H2) (fun hb H3 l3 => ?_) (fun hb H3 l3 => ?_)
      · have hs3 := l3.h s _ hs1
        have hq3 := l3.h q _ hq1
        have hr3 := l3.h r _ hr1
        obtain ⟨c0, cs, rfl⟩ : ∃ c0 cs, cells = c0 :: cs := by
          cases cells with
          | nil => simp at hb
          | cons c cs => exact ⟨c, cs, rfl⟩
        have t0' : Ev (tOp (rIxL K) (tVar 0) (tC (.int 0))) [some (.ref s), some (.int many), none, none, none, none] H3 (.ref q) := ev_op (ev_var rfl) ev_c (rv_ixL (sq_of hs3) rfl)
        refine t0' H3 (Ex.refl H3) _ fun H4 e4 => ⟨Or.inl ⟨rfl, _, sq_of (e4 q _ hq3)⟩, ⟨q, _, 0, 0, .int c0, rfl, rfl, e4 q _ hq3, by decide, by decide, ?_, rfl, ?_⟩⟩
        · simp [seqIndex?]
        · have l4 : LeX s q G H G (upd H4 q (.lst ((c0 :: cs).map V.int |>.eraseIdx 0))) := ((l1.trans (Le.heap l1.e (l3.h.trans e4)).x).mutQ gq)
          have hs4 : (upd H4 q (.lst ((c0 :: cs).map V.int |>.eraseIdx 0))) s = some (.lst [.ref q, .int u, .ref r, .int (m + 1)]) := by rw [upd_ne hsq]; exact e4 s _ hs3
          have hq4 : (upd H4 q (.lst ((c0 :: cs).map V.int |>.eraseIdx 0))) q = some (.lst (cs.map V.int)) := upd_same
          have hr4 : (upd H4 q (.lst ((c0 :: cs).map V.int |>.eraseIdx 0))) r = some (.lst (rst.map V.int)) := by rw [upd_ne hrq]; exact e4 r _ hr3
          generalize hH5 : upd H4 q (.lst ((c0 :: cs).map V.int |>.eraseIdx 0)) = H5 at l4 hs4 hq4 hr4
          refine ⟨_, rfl, s, _, 1, 1, rfl, rfl, hs4, rfl, ?_⟩
          refine ⟨rfl, l4.mutS gs, cs, c0, upd_same, ?_, ?_, by simp at hc; omega⟩
          · rw [upd_ne (Ne.symm hsq)]; exact hq4
          · rw [upd_ne hrs]; exact hr4
      · exact ⟨rfl, l1.trans (Le.heap l1.e l3.h).x, cells, u, l3.h s _ hs1, l3.h q _ hq1, l3.h r _ hr1, hc⟩
    · rintro σ' H3 ⟨rfl, l3, cells', u', hs3, hq3, hr3, hc3⟩
      have t1 : Ev (tOp (rIxL K) (tVar 0) (tC (.int 1))) [some (.ref s), some (.int many), none, none, none, none] H3 (.int u') := ev_op (ev_var rfl) ev_c (rv_ixL (sq_of hs3) rfl)
      refine q_ifG (b := decide ((0 : Int) < u')) (et_test (ev_op t1 ev_c rv_I0)) (Ex.refl H3) (fun hb H4 l4 => ?_) (fun hb H4 l4 => ?_)
      · have hs4 := l4.h s _ hs3
        have hq4 := l4.h q _ hq3
        have hr4 := l4.h r _ hr3
        refine q_asgV (v := .int (u'.fmod many)) (ev_op (ev_int1 (ev_op (ev_var (i := 0) rfl) ev_c (rv_ixL (sq_of hs4) rfl))) (ev_var (i := 1) rfl) (rv_I (by omega))) (Ex.refl H4) fun H5 l5 => ?_
        have hs5 := l5.h s _ hs4
        have hq5 := l5.h q _ hq4
        have hr5 := l5.h r _ hr4
        refine q_setL (j := 1) (v := .int (u'.fdiv many)) hs5 (ev_op (ev_op (ev_var (i := 0) rfl) ev_c (rv_ixL (sq_of hs5) rfl)) (ev_var (i := 1) rfl) (rv_I ⟨by omega, by omega⟩)) (ev_var (i := 0) rfl) ev_c (by show 1 < 4; decide) fun H6 e6 => ?_
        refine s_ret (v := .int (u'.fmod many)) (ev_var (i := 5) rfl) fun H7 e7 => ?_
        have l7 := ((l3.trans (Le.heap l3.e ((l4.h.trans l5.h).trans e6)).x).mutS gs (o := .lst [.ref q, .int (u'.fdiv many), .ref r, .int (m + 1)]))
        refine k (.int (u'.fmod many)) _ G H7 ⟨many, _, rfl, rfl, Int.fmod_nonneg_of_pos _ h0, Int.fmod_lt_of_pos _ h0⟩ (l7.trans (Le.heap l7.e e7).x) ⟨cells', rst, r, u'.fdiv many, m + 1, e7 s _ upd_same, ?_, ?_, hrs, hrq, hc3, hc2, by omega, by omega⟩ (at_int.mpr rfl)
        · refine e7 q _ ?_
          rw [upd_ne (Ne.symm hsq)]
          exact e6 q _ hq5
        · refine e7 r _ ?_
          rw [upd_ne hrs]
          exact e6 r _ hr5
      · have hs4 := l4.h s _ hs3
        have hq4 := l4.h q _ hq3
        have hr4 := l4.h r _ hr3
        have a1 : 0 ≤ m + 1 := by omega
        have a2 : m + 1 ≤ 1000001 := by omega
        have b1 : 7919 * (m + 1) ≤ 7919 * 1000001 := by omega
        have b2 : (7919 * (m + 1)) * (m + 1) ≤ (7919 * 1000001) * 1000001 := Int.mul_le_mul b1 a2 a1 (by decide)
        have b3 : 0 ≤ (7919 * (m + 1)) * (m + 1) := Int.mul_nonneg (by omega) a1
        have t3 : ∀ {x2 x3 x4 : Option V} {H' : Hp}, H' s = some (.lst [.ref q, .int u', .ref r, .int (m + 1)]) → Ev (tOp (rIxL K) (tVar 0) (tC (.int 3))) [some (.ref s), some (.int many), x2, x3, x4, none] H' (.int (m + 1)) := fun h => ev_op (ev_var (i := 0) rfl) ev_c (rv_ixL (sq_of h) rfl)
        have t2 : Ev (tOp (rIxL K) (tVar 0) (tC (.int 2))) [some (.ref s), some (.int many), none, none, none, none] H4 (.ref r) := ev_op (ev_var (i := 0) rfl) ev_c (rv_ixL (sq_of hs4) rfl)
        have tl : Ev (tCB (fun xs H Q => ∃ p ys, xs = [V.ref p] ∧ (SqL K H p ys ∨ SqT K H p ys) ∧ Q (.int ys.length) H) (tCons (tOp (rIxL K) (tVar 0) (tC (.int 2))) tNil)) [some (.ref s), some (.int many), none, none, none, none] H4 (.int (rst.length : Int)) := fun H3 e3 Q3 k3 => t2 H3 e3 _ fun H4 e4 => ⟨r, _, rfl, Or.inl (sq_of (e4 _ _ (e3 _ _ hr4))), by rw [List.length_map]; exact k3 H4 e4⟩
        obtain ⟨cl, hcl⟩ : ∃ cl : Int, Ev (tIf (tTest (tOp (rEqD K) (tOp (rIxL K) (tVar 0) (tC (.int 2))) (tLst tNil))) (tOp (rI CMul fun i j => .int (i * j)) (tC (.int 11)) (tOp (rIxL K) (tVar 0) (tC (.int 3)))) (tOp (rIxL K) (tOp (rIxL K) (tVar 0) (tC (.int 2))) (tOp (rI (fun _ j => j ≠ 0) fun i j => .int (i.fmod j)) (tCB (fun xs H Q => (∃ i, xs = [V.int i] ∧ Q (.int i) H) ∨ ∃ k, xs = [V.bl k] ∧ Q (.int (if k then 1 else 0)) H) (tCons (tOp (rIxL K) (tVar 0) (tC (.int 3))) tNil)) (tCB (fun xs H Q => ∃ p ys, xs = [V.ref p] ∧ (SqL K H p ys ∨ SqT K H p ys) ∧ Q (.int ys.length) H) (tCons (tOp (rIxL K) (tVar 0) (tC (.int 2))) tNil))))) [some (.ref s), some (.int many), none, none, none, none] H4 (.int cl) := by
          cases hrst : rst with
          | nil =>
            refine ⟨11 * (m + 1), ev_if (b := true) (et_test (ev_is (ev_eqNilI t2 hr4) (by rw [hrst]; rfl))) (fun _ => ev_op ev_c (t3 hs4) (rv_I (Or.inl (by decide)))) (fun z => nomatch z)⟩
          | cons c0 cs =>
            have hl : 0 < (rst.length : Int) := by rw [hrst]; simp
            obtain ⟨c1, hc1⟩ := atI_int (cells := rst) (i := (m + 1).fmod (rst.length : Int)) (Int.fmod_nonneg_of_pos _ hl) (Int.fmod_lt_of_pos _ hl)
            exact ⟨c1, ev_if (b := false) (et_test (ev_is (ev_eqNilI t2 hr4) (by rw [hrst]; rfl))) (fun z => nomatch z) fun _ => ev_op t2 (ev_op (ev_int1 (t3 hs4)) tl (rv_I (by omega))) (rv_ixL (sq_of hr4) hc1)⟩
        refine q_asgV (v := .int cl) hcl (Ex.refl H4) fun H5 l5 => ?_
        have hs5 := l5.h s _ hs4
        have hq5 := l5.h q _ hq4
        have hr5 := l5.h r _ hr4
        have C0 : 0 ≤ cl.fmod 2147483647 := Int.fmod_nonneg_of_pos _ (by decide)
        have C1 : cl.fmod 2147483647 < 2147483647 := Int.fmod_lt_of_pos _ (by decide)
        refine q_asgV (v := .int (cl.fmod 2147483647 + (7919 * (m + 1)) * (m + 1))) (ev_op (ev_op (ev_int1 (ev_var (i := 2) rfl)) ev_c (rv_I (by decide))) (ev_op (ev_op ev_c (t3 hs5) (rv_I (Or.inl (by decide)))) (t3 hs5) (rv_I (Or.inl (by omega)))) rv_I0) (Ex.refl H5) fun H6 l6 => ?_
        have hs6 := l6.h s _ hs5
        have hq6 := l6.h q _ hq5
        have hr6 := l6.h r _ hr5
        generalize cl.fmod 2147483647 = C at C0 C1
        generalize hZ : (7919 * (m + 1)) * (m + 1) = Z at b2 b3
        have M0 : 0 ≤ ((C + Z + 104729 * (m + 1) + 5) ^ (5 : Int).toNat).fmod 2147483629 := Int.fmod_nonneg_of_pos _ (by decide)
        have M1 : ((C + Z + 104729 * (m + 1) + 5) ^ (5 : Int).toNat).fmod 2147483629 < 2147483629 := Int.fmod_lt_of_pos _ (by decide)
        refine q_asgV (v := .int (((C + Z + 104729 * (m + 1) + 5) ^ (5 : Int).toNat).fmod 2147483629)) (ev_op (ev_op (ev_int1 (ev_op (ev_op (ev_var (i := 3) rfl) (ev_op ev_c (t3 hs6) (rv_I (Or.inl (by decide)))) rv_I0) ev_c rv_I0)) ev_c (rv_I ⟨by decide, by decide, by omega⟩)) ev_c (rv_I (by decide))) (Ex.refl H6) fun H7 l7 => ?_
        generalize ((C + Z + 104729 * (m + 1) + 5) ^ (5 : Int).toNat).fmod 2147483629 = M at M0 M1
        have hs7 := l7.h s _ hs6
        refine s_ret (v := .int ((((M * 40692 + 6151 * (m + 1)).fmod 1000000007).fdiv 3).fmod many)) (ev_op (ev_op (ev_op (ev_int1 (ev_op (ev_op (ev_var (i := 4) rfl) ev_c (rv_I (Or.inl (by omega)))) (ev_op ev_c (t3 hs7) (rv_I (Or.inl (by decide)))) rv_I0)) ev_c (rv_I (by decide))) ev_c (rv_I ⟨by decide, by decide⟩)) (ev_var (i := 1) rfl) (rv_I (by omega))) fun H8 e8 => ?_
        have hh := (((l4.h.trans l5.h).trans l6.h).trans l7.h).trans e8
        exact k (.int _) _ G H8 ⟨many, _, rfl, rfl, Int.fmod_nonneg_of_pos _ h0, Int.fmod_lt_of_pos _ h0⟩ (l3.trans (Le.heap l3.e hh).x) ⟨cells', rst, r, u', m + 1, hh s _ hs3, hh q _ hq3, hh r _ hr3, hrs, hrq, hc3, hc2, by omega, by omega⟩ (at_int.mpr rfl)
end
end SR
set_option maxRecDepth 100000
set_option maxHeartbeats 4000000
namespace SR
open PySem PySem.Spec PyProof.Rows L2 Evl
theorem walk_zipT {K : PySem.W.Frag} {a b : Addr} {xs ys : List V} {n : Nat} (hn : n = min xs.length ys.length) : Walk (RZ.ItzT K a b) n (fun H => SqT K H a xs ∧ SqT K H b ys) (YPair (fun i => xs[i]?) (fun i => ys[i]?)) := by
  subst hn
  refine ⟨fun i _ hi q => ?_, fun _ q => ⟨xs, ys, q.1, q.2, by omega⟩, fun i H v H' _ q y => ?_⟩
  · have h1 : i < xs.length := by omega
    have h2 : i < ys.length := by omega
    exact ⟨xs, ys, xs[i], ys[i], q.1, q.2, by simp [h1], by simp [h2]⟩
  · obtain ⟨T, x, z, h1, h2, h3, h4, h5⟩ := y
    exact ⟨T, x, z, h1, h2, h3, h4 xs q.1, h5 ys q.2⟩
section
variable {ω : Type} {K : PySem.W.Frag} {O : OI ω} {G : Hp} {te : TE} {σ : L2.St} {d : D ω} {T : ω → Value}
theorem src_zipT {ta : TA} {ds es : List (D ω)} (h : EvDA K O ta σ G [.tup ds, .tup es]) : Src K O (RZ.iZipA K ta) σ G (zipD ds es) := fun H1 e R k =>
  h H1 e _ fun vs G2 H2 l as => by
    obtain ⟨v, r, rfl, a, n⟩ := atL_cons.mp as
    obtain ⟨v', r', rfl, a', n'⟩ := atL_cons.mp n
    obtain rfl := atL_nil.mp n'
    obtain ⟨p, ws, rfl, hs, aw⟩ := at_tup.mp a
    obtain ⟨q, us, rfl, hs', aw'⟩ := at_tup.mp a'
    refine ⟨p, q, ws, us, rfl, Or.inr ⟨ex_t l.e hs, ex_t l.e hs', ?_⟩⟩
    have hl : ws.length = ds.length := aw.len
    have hl' : us.length = es.length := aw'.len
    have hn : (zipD ds es).length = min ws.length us.length := by simp [zipD, hl, hl']
    refine k (RZ.ItzT K p q) _ _ G2 H2 l (walk_zipT hn) (fun H x => ⟨ex_t x hs, ex_t x hs'⟩) fun i Gi Hi x Hi' eg eh hi y => ?_
    obtain ⟨T, x1, x2, rfl, hT, rfl, h1, h2⟩ := y
    obtain ⟨d, hd, ad⟩ := aw.get h1
    obtain ⟨d', hd', ad'⟩ := aw'.get h2
    have e3 : (zipD ds es)[i]? = some (.tup [d, d']) := by
      simp [zipD, List.zip, List.getElem?_zipWith, hd, hd']
    refine ⟨_, upd Gi T (.tup [x1, x2]), e3, Le.new eh hT, at_tup.mpr ⟨T, _, rfl, st_of upd_same, atL_cons.mpr ⟨_, _, rfl, (ad.mono eg).mono (Ex.new (none_of_ex eh hT)), ?_⟩⟩⟩
    exact AtL.one ((ad'.mono eg).mono (Ex.new (none_of_ex eh hT)))
theorem kit_ils (h : OT K O T) (d : D ω) : PySem.W.kitAny K (tyD T d) [.type "int", .type "list", .type "tuple"] = some (dIntB d || dSeq d) := by
  refine kitAny_cons (kit_int h d) (fun hb => ?_) (fun hb => by rw [hb]; rfl)
  rw [hb, Bool.false_or]
  exact kit_seq h d
theorem isi_ils (OK : OT K O T) (h : EvD K O te σ G d) : Ev (tCB (rIsiT K) (tCons te (tCons (tTup (tCons (tC (.ty "int")) (tCons (tC (.ty "list")) (tCons (tC (.ty "tuple")) tNil)))) tNil))) σ G (.bl (dIntB d || dSeq d)) := fun H1 e Q q =>
  h H1 e _ fun v G2 H2 l a => ⟨by show 3 ≤ sizeLine; decide, fun p hp => ⟨v, p, _, _, [.type "int", .type "list", .type "tuple"], _, rfl, upd_same, .cons (.ty _) (.cons (.ty _) (.cons (.ty _) .nil)), ty_of OK.ty ((a.mono l.e).mono (Ex.new hp)), kit_ils OK d, q _ (l.h.trans (Ex.new hp))⟩⟩
/-- all([..]) of truth values that are all True -/
theorem AtL.bools {bs : List Bool} {vs : List V} (h : AtL K O G (bs.map D.bl) vs) : vs = bs.map V.bl := by
  induction bs generalizing vs with
  | nil => exact atL_nil.mp h
  | cons b r ih =>
    obtain ⟨v, w, rfl, h1, h2⟩ := atL_cons.mp h
    rw [at_bl.mp h1, ih h2]
    rfl
theorem ev_allD {bs : List Bool} (h : EvD K O te σ G (.lst (bs.map D.bl))) : Ev (tCB (rAll K) (tCons te tNil)) σ G (.bl (bs.all id)) := fun H1 e Q q =>
  h H1 e _ fun v G2 H2 l a => by
    obtain ⟨p, vs, rfl, hs, as⟩ := at_lst.mp a
    obtain rfl := as.bools
    exact ⟨p, bs, rfl, sq_of (l.e _ _ hs), q H2 l.h⟩
theorem ev_anyD {bs : List Bool} (h : EvD K O te σ G (.lst (bs.map D.bl))) : Ev (tCB (rAny K) (tCons te tNil)) σ G (.bl (bs.any id)) := fun H1 e Q q =>
  h H1 e _ fun v G2 H2 l a => by
    obtain ⟨p, vs, rfl, hs, as⟩ := at_lst.mp a
    obtain rfl := as.bools
    exact ⟨p, bs, rfl, sq_of (l.e _ _ hs), q H2 l.h⟩
/-- within a lock -/
theorem ev_dgetF {td ty : TE} {a : Addr} {od : Obj} {m : List (Int × Int)} {o c : Int} (hd : Ev td σ G (.ref a)) (hm : G a = some (.frz od (.dK (kvI m)))) (hy : Ev ty σ G (.int o)) (hc : getI m o = some c) : Ev (tDGet td ty) σ G (.int c) := fun H1 e Q q =>
  hd H1 e _ fun H2 e2 => hy H2 (e.trans e2) _ fun H3 e3 => ⟨a, .int c, rfl, Or.inl ⟨kvI m, Sum.inl o, Or.inr ⟨od, (e.trans e2).trans e3 a _ hm⟩, rfl, by rw [valV_kvI, hc]; rfl⟩, q H3 (e2.trans e3)⟩
end
/-! ### depth -/
mutual
def dep {ω : Type} : D ω → Nat
  | .lst l => depL l + 1
  | .tup l => depL l + 1
  | _ => 0
def depL {ω : Type} : List (D ω) → Nat
  | [] => 0
  | d :: l => max (dep d) (depL l)
end
theorem depL_le {ω : Type} : ∀ {l : List (D ω)} {d : D ω}, d ∈ l → dep d ≤ depL l
  | c :: l, d, h => by
    show dep d ≤ max (dep c) (depL l)
    rcases List.mem_cons.mp h with rfl | h
    · exact Nat.le_max_left _ _
    · exact Nat.le_trans (depL_le h) (Nat.le_max_right _ _)
theorem noObjL_mem {ω : Type} : ∀ {l : List (D ω)} {d : D ω}, noObjL l = true → d ∈ l → noObj d = true
  | c :: l, d, n, h => by
    simp only [noObjL, Bool.and_eq_true] at n
    rcases List.mem_cons.mp h with rfl | h
    · exact n.1
    · exact noObjL_mem n.2 h
end SR
set_option maxRecDepth 100000
set_option maxHeartbeats 4000000
namespace SR
open PySem PySem.Spec PyProof.Rows L2 Evl
section
variable (P : Program) (w : World) (K : PySem.W.Frag) (mg : Str → Option Value) (base : Heap)
/-- a special method of the class at C -/
structure DunOk (C : Addr) (k : Nat) (m : Str) (ps : List Str) (sp : Sp) : Prop where
  ex : ∃ g fd, PySem.W.findIn K (.ref C) m = some (some (.ref g)) ∧ PySem.W.isFn K (.ref g) = true ∧ PySem.W.fnIn K g = true ∧ Binds K fd ps [] ∧ FnOk P w K mg base CX0 k g fd ps sp
end
section
variable {X : Cx} {k : Nat} {C : Addr} {ps : List Str} {sp : Sp} {a b : Expr} {ta tb : TE} {pos : Pos}
theorem call_boolD (h : DunOk X.prog X.w X.K X.mg X.base C k "__bool__" ps sp) (hr : Room (k + 2) X.A) : CallR X (.type "bool") (rBoolOwn C sp E0) := by
  obtain ⟨g, fd, hs, hf, _, hb, F⟩ := h.ex
  exact call_boolOwn hs hf F hr hb pass0
theorem tru_D (h : DunOk X.prog X.w X.K X.mg X.base C k "__bool__" ps sp) (hr : Room k X.A) : TruR X (rTruOwn C sp E0) := by
  obtain ⟨g, fd, hs, hf, _, hb, F⟩ := h.ex
  exact tru_own hs hf F hr hb pass0
theorem pe_ixD (h : DunOk X.prog X.w X.K X.mg X.base C k "__getitem__" ps sp) (hr : Room (k + 1) X.A) (ha : PE X a ta) (hi : PE X b tb) (hsl : PlainIxO b) : PE X (.Subscript a b pos) (tOp (rIxOwn C sp E0) ta tb) := by
  obtain ⟨g, fd, hs, hf, hf2, hb, F⟩ := h.ex
  exact pe_ixOwn hs hf2 hf F hr hb pass0 ha hi hsl
theorem op_eqDun (K : PySem.W.Frag) (h : DunOk X.prog X.w X.K X.mg X.base C k "__eq__" ps sp) (hr : Room k X.A) (hK : X.K = K := by rfl) : OpR X (compareOp .Eq) (rEqOwn K C sp E0) := by
  subst hK
  obtain ⟨g, fd, hs, hf, _, hb, F⟩ := h.ex
  exact op_eqOwn hs hf F hr hb pass0
theorem op_neDun (K : PySem.W.Frag) (h : DunOk X.prog X.w X.K X.mg X.base C k "__eq__" ps sp) (hne : PySem.W.findIn X.K (.ref C) "__ne__" = some (some (.builtin "object.__ne__"))) (hm : PySem.W.mroIn X.K C (.type "object") = some true) (hr : Room (k + 1) X.A) (hK : X.K = K := by rfl) : OpR X (compareOp .NotEq) (rNeOwn K C sp E0) := by
  subst hK
  obtain ⟨g, fd, hs, hf, _, hb, F⟩ := h.ex
  exact op_neOwn hs hf hne hm F hr hb pass0
end
section
variable {K : PySem.W.Frag} {C : Addr} {G H : Hp} {te ta tb ti : TE} {σ : L2.St} {w : FilS} {R : List (D FilS) → D FilS → Prop}
theorem ev_boolF {b : Bool} (h : EvD K (FilO K C) te σ G (.obj w)) (r : R [.obj w] (.bl b)) : Ev (tCB (rBoolOwn C (SpD K (FilO K C) R) E0) (tCons te tNil)) σ G (.bl b) := fun H1 e Q q =>
  h H1 e _ fun v G2 H2 l a => by
    obtain ⟨x, rfl, dx, tp, o, ts, kd, h1, _⟩ := at_obj.mp a
    exact ⟨x, dx, _, rfl, l.e _ _ h1, G2, [.obj w], .bl b, l.e, AtL.one a, r, fun v G3 H3 l3 a3 => ⟨b, at_bl.mp a3, q H3 (l.h.trans l3.h)⟩⟩
theorem et_truF {b : Bool} (h : EvD K (FilO K C) te σ G (.obj w)) (r : R [.obj w] (.bl b)) : EvT (fun σ H Q => te σ H fun x H' => rTruOwn C (SpD K (FilO K C) R) E0 x H' Q) σ G b := fun H1 e Q q =>
  h H1 e _ fun v G2 H2 l a => by
    obtain ⟨x, rfl, dx, tp, o, ts, kd, h1, _⟩ := at_obj.mp a
    exact ⟨x, dx, _, rfl, l.e _ _ h1, G2, [.obj w], .bl b, l.e, AtL.one a, r, fun v G3 H3 l3 a3 => ⟨b, at_bl.mp a3, q H3 (l.h.trans l3.h)⟩⟩
theorem ed_getF {d : D FilS} {o : Int} (h : EvD K (FilO K C) te σ G (.obj w)) (hi : Ev ti σ G (.int o)) (r : R [.obj w, .int o] d) : EvD K (FilO K C) (tOp (rIxOwn C (SpD K (FilO K C) R) E0) te ti) σ G d := fun H1 e Q k =>
  h H1 e _ fun v G2 H2 l a => hi H2 (e.trans l.h) _ fun H3 e3 => by
    obtain ⟨x, rfl, dx, tp, oo, ts, kd, h1, h2⟩ := at_obj.mp a
    exact ⟨x, dx, _, rfl, e3 _ _ (l.e _ _ h1), G2, [.obj w, .int o], d, l.e.trans e3, atL_cons.mpr ⟨_, _, rfl, a, AtL.one (at_int.mpr rfl)⟩, r, fun v G4 H4 l4 a4 => k v G4 H4 ((l.trans (Le.heap l.e e3)).trans l4) a4⟩
/-- f == x -/
theorem ev_eqF {b : Bool} {d : D FilS} {T : FilS → Value} (hT : ∀ H a w, (FilO K C).at_ H a w → TyX K H (.ref a) (T w)) (hn : ∀ d : D FilS, PySem.W.notFirst K C (tyD T d) = true) (h : EvD K (FilO K C) ta σ G (.obj w)) (h2 : EvD K (FilO K C) tb σ G d) (r : R [.obj w, d] (.bl b)) : Ev (tOp (rEqOwn K C (SpD K (FilO K C) R) E0) ta tb) σ G (.bl b) := fun H1 e Q q =>
  h H1 e _ fun v G2 H2 l a => h2 H2 (e.trans l.h) _ fun u G3 H3 l3 a3 => by
    obtain ⟨x, rfl, dx, tp, o, ts, kd, h1, _⟩ := at_obj.mp a
    have e2 : Ex G2 H3 := l.e.trans l3.h
    exact ⟨x, dx, _, _, rfl, e2 _ _ h1, ty_of hT (a3.mono l3.e), hn d, hun G3 G2, [.obj w, d], .bl b, hun_ex l3.e e2, atL_cons.mpr ⟨_, _, rfl, a.mono (hun_r l3.e e2), AtL.one (a3.mono hun_l)⟩, r, fun v G4 H4 l4 a4 => ⟨b, at_bl.mp a4, q H4 ((l.h.trans l3.h).trans l4.h)⟩⟩
theorem ev_neF {b : Bool} {d : D FilS} {T : FilS → Value} (hT : ∀ H a w, (FilO K C).at_ H a w → TyX K H (.ref a) (T w)) (hn : ∀ d : D FilS, PySem.W.notFirst K C (tyD T d) = true) (h : EvD K (FilO K C) ta σ G (.obj w)) (h2 : EvD K (FilO K C) tb σ G d) (r : R [.obj w, d] (.bl b)) : Ev (tOp (rNeOwn K C (SpD K (FilO K C) R) E0) ta tb) σ G (.bl (!b)) := fun H1 e Q q =>
  h H1 e _ fun v G2 H2 l a => h2 H2 (e.trans l.h) _ fun u G3 H3 l3 a3 => by
    obtain ⟨x, rfl, dx, tp, o, ts, kd, h1, _⟩ := at_obj.mp a
    have e2 : Ex G2 H3 := l.e.trans l3.h
    exact ⟨x, dx, _, _, rfl, e2 _ _ h1, ty_of hT (a3.mono l3.e), hn d, hun G3 G2, [.obj w, d], .bl b, hun_ex l3.e e2, atL_cons.mpr ⟨_, _, rfl, a.mono (hun_r l3.e e2), AtL.one (a3.mono hun_l)⟩, r, fun v G4 H4 l4 a4 => ⟨b, at_bl.mp a4, q H4 ((l.h.trans l3.h).trans l4.h)⟩⟩
theorem ed_lastL {ω : Type} {O : OI ω} {ds : List (D ω)} {c : D ω} (h : EvD K O te σ G (.lst ds)) (hi : Ev ti σ G (.int (-1))) (hc : ds[ds.length - 1]? = some c) : EvD K O (tOp (rIxL K) te ti) σ G c := fun H1 e Q k =>
  h H1 e _ fun v G2 H2 l a => hi H2 (e.trans l.h) _ fun H3 e3 => by
    obtain ⟨p, vs, rfl, hs, as⟩ := at_lst.mp a
    obtain ⟨x, hx, ax⟩ := as.get' hc
    have hl := as.len
    have hpos : 0 < ds.length := by
      have := (List.getElem?_eq_some_iff.mp hc).1
      omega
    refine ⟨p, vs, _, x, rfl, rfl, sq_of ((l.e.trans e3) _ _ hs), ?_, k x G2 H3 (l.trans (Le.heap l.e e3)) ax⟩
    unfold atI ixN
    rw [if_neg (by decide), if_pos (by omega)]
    rw [← hl] at hx
    have e5 : ((-1 : Int) + (vs.length : Int)).toNat = vs.length - 1 := by omega
    show vs[((-1 : Int) + (vs.length : Int)).toNat]? = some x
    rw [e5]
    exact hx
/-- xs + ys -/
theorem ed_cat {ω : Type} {O : OI ω} {ds es : List (D ω)} (h1 : EvD K O ta σ G (.lst ds)) (h2 : EvD K O tb σ G (.lst es)) (hz : ds.length + es.length ≤ 100000) : EvD K O (tOp rCat ta tb) σ G (.lst (ds ++ es)) := fun H1 e Q k =>
  h1 H1 e _ fun v G2 H2 l a => h2 H2 (e.trans l.h) _ fun u G3 H3 l3 a3 => by
    obtain ⟨p, vs, rfl, hs, as⟩ := at_lst.mp a
    obtain ⟨q, us, rfl, hs3, as3⟩ := at_lst.mp a3
    have e2 : Ex G2 H3 := l.e.trans l3.h
    have lw : Le G H1 (hun G3 G2) H3 := ⟨l.h.trans l3.h, l.g.trans (hun_r l3.e e2), hun_ex l3.e e2, (fun y hg hh => by
      have n2 := l.f y hg hh
      have h2' : H2 y ≠ none := fun z => hh (fresh_back l.h z)
      have g0 : G y = none := hg
      unfold hun
      rw [l3.f y g0 h2']
      exact n2), hun_t l3.t l.t⟩
    refine ⟨p, q, vs, us, rfl, rfl, e2 _ _ hs, l3.e _ _ hs3, sz_of (by rw [as.len, as3.len]; exact hz), fun m hm => ?_⟩
    have ln := Le.new (o := .lst (vs ++ us)) lw.e hm
    refine k _ (upd (hun G3 G2) m (.lst (vs ++ us))) _ (lw.trans ln) (at_lst.mpr ⟨m, _, rfl, upd_same, ?_⟩)
    exact (((as.mono (hun_r l3.e e2)).app (as3.mono hun_l)).mono ln.g)
end
section
variable {ω : Type} {K : PySem.W.Frag} {O : OI ω} {G H : Hp} {ta : TA} {σ : L2.St} {De : Ends} {tz : TS} {i j : Nat}
theorem q_par {x y : V} (h : EvA ta σ G [x, y]) (e : Ex G H) (k : ∀ H2, Le G H G H2 → tz De ((σ.set i (some x)).set j (some y)) H2) : tSeq (tPar i j ta) tz De σ H := h H e _ fun H2 e2 => ⟨x, y, rfl, k H2 (Le.heap e e2)⟩
theorem q_parD {d1 d2 : D ω} (h : EvDA K O ta σ G [d1, d2]) (e : Ex G H) (k : ∀ x y G2 H2, Le G H G2 H2 → At K O G2 d1 x → At K O G2 d2 y → tz De ((σ.set i (some x)).set j (some y)) H2) : tSeq (tPar i j ta) tz De σ H := h H e _ fun vs G2 H2 l as => by
  obtain ⟨x, r, rfl, a1, n⟩ := atL_cons.mp as
  obtain ⟨y, r, rfl, a2, n⟩ := atL_cons.mp n
  obtain rfl := atL_nil.mp n
  exact ⟨x, y, rfl, k x y G2 H2 l a1 a2⟩
end
end SR
set_option maxRecDepth 100000
set_option maxHeartbeats 4000000
/-! Steps of parts, one after the other, as they stand. -/
namespace SR
open PySem PySem.Spec PyProof.Rows L2 Evl
section
variable {σ : L2.St} {H : Hp} {te ta tb : TE} {t : TA} {De : Ends} {tz : TS} {i j : Nat} {C : Addr} {sp : Sp} {dvs : List V} {E : XK} {Q : VK}
theorem rw_cons {Q : List V → Hp → Prop} (h : te σ H fun x H1 => t σ H1 fun xs H2 => Q (x :: xs) H2) : tCons te t σ H Q := h
theorem rw_nil {Q : List V → Hp → Prop} (h : Q [] H) : tNil σ H Q := h
theorem rw_call (h : t σ H fun vs H1 => sp (vs ++ dvs) H1 Q E) : tCall sp dvs E t σ H Q := h
theorem rw_op {r : R2} (h : ta σ H fun x H1 => tb σ H1 fun y H2 => r x y H2 Q) : tOp r ta tb σ H Q := h
theorem rw_asg (h : te σ H fun v H2 => tz De (σ.set i (some v)) H2) : tSeq (tAsg te (gName i)) tz De σ H := h
theorem rw_par (h : t σ H fun vs H2 => ∃ x y, vs = [x, y] ∧ tz De ((σ.set i (some x)).set j (some y)) H2) : tSeq (tPar i j t) tz De σ H := h
theorem rw_lst (h : t σ H fun vs H1 => vs.length ≤ sizeLine ∧ ∀ p, H1 p = none → Q (.ref p) (upd H1 p (.lst vs))) : tLst t σ H Q := h
theorem rw_tup (h : t σ H fun vs H1 => vs.length ≤ sizeLine ∧ ∀ p, H1 p = none → Q (.ref p) (upd H1 p (.tup vs))) : tTup t σ H Q := h
theorem rw_lc1 {g : TG} {tt : TT} {vs : List Nat} (h : t σ H fun us H1 => tLc (iRng1 (fun _ H Q => Q us H)) g tt te vs σ H1 Q) : tLc (iRng1 t) g tt te vs σ H Q := h
theorem rw_ret (h : te σ H De.rt) : tRet te De σ H := h
theorem rw_seqI {tt : TT} {tu tw : TS} (h : tIfS tt tu tw { De with nx := tz De } σ H) : tSeq (tIfS tt tu tw) tz De σ H := h
theorem rw_make (h : t σ H fun vs H1 => tMake C sp dvs E (fun _ H Q => Q vs H) σ H1 Q) : tMake C sp dvs E t σ H Q := h
theorem rw_var {x : V} (hx : σ[i]? = some (some x)) (h : Q x H) : tVar i σ H Q := ⟨x, hx, h⟩
theorem rw_asgG {g : TG} (h : te σ H fun v H2 => g v σ H2 fun σ' H3 => tz De σ' H3) : tSeq (tAsg te g) tz De σ H := h
theorem rw_for1 {g : TG} {tb : TS} (h : t σ H fun us H1 => tSeq (tFor (iRng1 (fun _ H Q => Q us H)) g tb) tz De σ H1) : tSeq (tFor (iRng1 t) g tb) tz De σ H := h
theorem rw_split {t : TT} {tu tw : TS} (Pst : L2.St → Hp → Prop) (h : ∀ TZ : L2.St → Hp → Prop, (∀ σ' H', Pst σ' H' → TZ σ' H') → tIfS t tu tw { De with nx := TZ } σ H) (k : ∀ σ' H', Pst σ' H' → tz De σ' H') : tSeq (tIfS t tu tw) tz De σ H := h (tz De) k
theorem rw_c {v : V} (h : Q v H) : tC v σ H Q := h
theorem ea_constZ {G : Hp} {vs : List V} : EvA (fun _ H Q => Q vs H) σ G vs := fun H1 e Q q => q H1 (Ex.refl H1)
theorem rw_seqIf {tt : TT} {tu tw : TS} (h : tt σ H fun b H1 => if b = true then tu { De with nx := tz De } σ H1 else tw { De with nx := tz De } σ H1) : tSeq (tIfS tt tu tw) tz De σ H := h
end
section
variable {ω : Type} {K : PySem.W.Frag} {O : OI ω} {G H : Hp} {σ : L2.St} {ds es : List (D ω)} {x y : V} {Q : VK}
theorem ed_cv {v : V} {d : D ω} (a : At K O G d v) : EvD K O (tC v) σ G d := fun H1 e Q k => k v G H1 (Le.refl e) a
theorem ed_cf {v : V} {d : D ω} (a : At K O G d v) : EvD K O (fun _ H Q => Q v H) σ G d := fun H1 e Q k => k v G H1 (Le.refl e) a
theorem eda_cf {us : List V} (a : AtL K O G ds us) : EvDA K O (fun _ H Q => Q us H) σ G ds := fun H1 e Q k => k us G H1 (Le.refl e) a
theorem cat_go (ax : At K O G (.lst ds) x) (ay : At K O G (.lst es) y) (hz : ds.length + es.length ≤ 100000) (e : Ex G H) (k : ∀ v G2 H2, Le G H G2 H2 → At K O G2 (.lst (ds ++ es)) v → Q v H2) : rCat x y H Q :=
  ed_cat (σ := []) (ed_cf ax) (ed_cf ay) hz H e Q k
/-- a new list, told apart from what is known -/
theorem cat_new (ax : At K O G (.lst ds) x) (ay : At K O G (.lst es) y) (hz : ds.length + es.length ≤ 100000) (e : Ex G H) (k : ∀ l us, H l = none → AtL K O G (ds ++ es) us → Q (.ref l) (upd H l (.lst us))) : rCat x y H Q := by
  obtain ⟨p, vs, rfl, hs, as⟩ := at_lst.mp ax
  obtain ⟨q, us, rfl, hs3, as3⟩ := at_lst.mp ay
  exact ⟨p, q, vs, us, rfl, rfl, e _ _ hs, e _ _ hs3, sz_of (by rw [as.len, as3.len]; exact hz), fun m hm => k m _ hm (as.app as3)⟩
end
theorem call_listK {X : Cx} (K : PySem.W.Frag) (hK : X.K = K := by rfl) : CallR X (.type "list") (rListOf K) := by
  subst hK
  exact call_list_of
theorem call_tupleK {X : Cx} (K : PySem.W.Frag) (hK : X.K = K := by rfl) : CallR X (.type "tuple") (fun xs H Q => ∃ p ys, xs = [V.ref p] ∧ SqL K H p ys ∧ ∀ l o, H l = none → o.dict = none → Q (.ref l) (upd H l (.frz o (.tup ys)))) := by
  subst hK
  exact call_tupleF
end SR
set_option maxRecDepth 100000
set_option maxHeartbeats 4000000
namespace SR
open PySem PySem.Spec PyProof.Rows L2 Evl
section
variable {P : Program} {w : World} {K : PySem.W.Frag} {mg : Str → Option Value} {base : Heap} {ω : Type} {O : OI ω} {Ty : ω → Value}
/-- a call of a helper over the source -/
theorem x_call {G H : Hp} {s q : Addr} {n add i : Nat} {Pre : List (D ω) → Prop} {R : List (D ω) → D ω → Prop} {ta : TA} {σ : L2.St} {ds : List (D ω)} {E : XK} {Q : VK} (e : Ex G H) (gs : G s = none) (gq : G q = none) (spr : Spr H s q n) (hn : n + add ≤ 1000000) (hv : σ[i]? = some (some (.ref s)))
    (ha : EvDA K O ta σ G ds) (pre : Pre ds) (k : ∀ d v G2 H2, R ds d → LeX s q G H G2 H2 → Spr H2 s q (n + add) → At K O G2 d v → Q v H2) : tCall (SpX K O add Pre R) [] E (tCons (tVar i) ta) σ H Q :=
  ⟨.ref s, hv, ha H e _ fun vs G2 H2 l as => ⟨G2, s, q, n, ds, vs, by simp, l.e, l.gnone gs spr.sne, l.gnone gq spr.qne, spr.keep l.h (Nat.le_refl _), hn, as, pre, fun d v G3 H3 r l3 sp3 a => k d v G3 H3 r (l.x.trans l3) sp3 a⟩⟩
/-! ### _law_box -/
/-- the script as a source -/
theorem src_sq {G : Hp} {σ : L2.St} {i : Nat} {a : Addr} {ns : List Int} (hv : σ[i]? = some (some (.ref a))) (hq : ∀ H1, Ex G H1 → SqL K H1 a (ns.map V.int)) : Src K O (iList K (tVar i)) σ G (ns.map D.int) := fun H1 e R k =>
  ⟨.ref a, hv, a, rfl, ⟨_, hq H1 e⟩, by
    have hl : (ns.map V.int).length = (ns.map (D.int (ω := ω))).length := by rw [List.length_map, List.length_map]
    refine k (Itl K a) _ _ G H1 (Le.refl e) (by rw [← hl]; exact walk_list (xs := ns.map V.int)) (fun H x => hq H x) fun i Gi Hi x Hi' eg eh hi y => ?_
    obtain ⟨rfl, hx⟩ := y
    rw [List.getElem?_map] at hx
    obtain ⟨z, hz, rfl⟩ := Option.map_eq_some_iff.mp hx
    exact ⟨.int z, Gi, by rw [List.getElem?_map, hz]; rfl, Le.refl eh, at_int.mpr rfl⟩⟩
/-- some of the ints of a source, in a new list -/
theorem x_lcInts {G : Hp} {σ : L2.St} {te : TE} {wi : TI} {g : TG} {tt : TT} {vs : List Nat} {ns : List Int} (f : Int → Bool) (hs : Src K O wi σ G (ns.map D.int)) (hz : ns.length ≤ 1000)
    (body : ∀ (n : Int) (Gi Hi : Hp), Ex G Gi → Ex Gi Hi → ∀ Q : L2.St → Hp → Prop, (∀ σ2 H2, Ex Hi H2 → wipe σ2 vs = wipe σ vs → EvT tt σ2 Gi (f n) → (f n = true → Ev te σ2 Gi (.int n)) → Q σ2 H2) → g (.int n) (wipe σ vs) Hi Q) :
    ∀ H1, Ex G H1 → ∀ Q : VK, (∀ Dl H2, H1 Dl = none → Ex H1 H2 → H2 Dl = some (.lst ((ns.filter f).map V.int)) → Q (.ref Dl) H2) → tLc wi g tt te vs σ H1 Q := fun H1 e Q k => by
  refine hs H1 e _ fun J Gd Y G0 H0 l0 w hG yl => ?_
  intro Dl hD
  refine lc_it w (fun i H => ∃ Gi, Le G0 H0 Gi H ∧ H Dl = some (.lst (((ns.take i).filter f).map V.int)) ∧ Gi Dl = none)
    ⟨G0, Le.newM l0.e hD, by rw [List.take_zero]; exact upd_same, none_of_ex l0.e hD⟩ (fun i H _ p => ?_) (fun i x Hi Hi' hi p y => ?_) fun H p => ?_
  · obtain ⟨Gi, l, _⟩ := p
    exact hG H (l.g.trans l.e)
  · obtain ⟨Gi, l, hu, gn⟩ := p
    obtain ⟨d, Gi', hd, l', ad⟩ := yl i Gi Hi x Hi' l.g l.e hi y
    rw [List.getElem?_map] at hd
    obtain ⟨z, hz2, rfl⟩ := Option.map_eq_some_iff.mp hd
    obtain rfl := at_int.mp ad
    have tk := take_snoc hz2
    have gn' : Gi' Dl = none := l'.gnone gn (by rw [hu]; exact fun z => nomatch z)
    have hu' := l'.h Dl _ hu
    have lt : Le G0 H0 Gi' Hi' := l.trans l'
    refine body z Gi' Hi' (l0.g.trans lt.g) l'.e _ fun σ2 H2 e2 hw ht he => ⟨hw, ?_⟩
    refine ht H2 (l'.e.trans e2) _ fun H3 e3 => ?_
    have e23 := e2.trans e3
    have lt3 : Le G0 H0 Gi' H3 := lt.trans (Le.heap l'.e e23)
    cases hf : f z with
    | false =>
      rw [if_neg Bool.false_ne_true]
      refine ⟨Gi', lt3, ?_, gn'⟩
      rw [tk, List.filter_append, List.filter_cons, if_neg (by rw [hf]; decide), List.filter_nil, List.append_nil]
      exact e23 Dl _ hu'
    | true =>
      rw [if_pos rfl]
      refine he hf H3 (l'.e.trans e23) _ fun H4 e4 => ?_
      have hu4 := e4 Dl _ (e23 Dl _ hu')
      have ul : (((ns.take i).filter f).map V.int).length ≤ 1000 := by
        rw [List.length_map]
        exact Nat.le_trans (List.length_filter_le _ _) (by rw [List.length_take]; omega)
      refine ⟨_, hu4, Nat.lt_of_lt_of_le (show _ < 1000000 by omega) (of_decide_eq_true (id (Eq.refl true))), Gi', (lt3.trans (Le.heap lt3.e e4)).mut hD gn', ?_, gn'⟩
      rw [tk, List.filter_append, List.filter_cons, if_pos hf, List.filter_nil, List.map_append]
      exact upd_same
  · obtain ⟨Gi, l, hu, gn⟩ := p
    rw [List.length_map, List.take_length] at hu
    exact k Dl H (fresh_back l0.h hD) (l0.h.trans l.h) hu
def spSpring (K : PySem.W.Frag) : Sp := fun vs H Q _ => ∃ (a : Addr) (ns : List Int), vs = [.ref a] ∧ SqL K H a (ns.map V.int) ∧ ns.length ≤ 63 ∧ ∀ s q H', H s = none → H q = none → Ex H H' → Spr H' s q 0 → Q (.ref s) H'
abbrev _law_box_S : Stmt := topS 27
abbrev _law_box_N : List Str := ["_law_script", "_law_cell"]
theorem _law_box_sc : FnScope _law_box_N ["_law_script"] (defScope _law_box_S) := ⟨rfl, rfl, rfl, by decide +kernel, rfl, by decide +kernel, by decide +kernel⟩
theorem ok_spring {f : Addr} {fd : FuncData} (F : Fun K "_law_box" "_law_box" _law_box_S f fd) (B : Bi mg) : FnOk P w K mg base CX0 1 f fd ["_law_script"] (spSpring K) := by
  refine F.ok _law_box_sc (fun vs H Q E h => ?_) (fun cdv A outer s0 H vs Q E hr h => ?_)
  · obtain ⟨a, ns, rfl, _⟩ := h
    rfl
  · obtain ⟨a, ns, rfl, hs, hl, k⟩ := h
    refine ⟨_, (pss_one (ps_ret (pe_lst (pa_cons (pe_lc (own := [("_law_cell", 1)]) rfl _law_box_sc.nd (pi_or (pi_list (pv 0)) (pi_tup (pv 0))) (blkOk_by (N := _law_box_N) (sc := defScope _law_box_S) (by decide +kernel)) (fun _ _ _ _ _ => (pg_name (i := 1) _law_box_sc.nd rfl (Or.inl rfl))) (fun _ _ _ _ _ => by exact pts_one (pt_cmpR op_ge (pv 1) (pe_op op_pow pe_int pe_int) (nomark _))) (fun _ _ _ _ _ => by exact (pv 1))) (pa_cons pe_int (pa_cons (pe_lc (own := [("_law_cell", 1)]) rfl _law_box_sc.nd (pi_or (pi_list (pv 0)) (pi_tup (pv 0))) (blkOk_by (N := _law_box_N) (sc := defScope _law_box_S) (by decide +kernel)) (fun _ _ _ _ _ => (pg_name (i := 1) _law_box_sc.nd rfl (Or.inl rfl))) (fun _ _ _ _ _ => by exact pts_one (pt_cmpR op_lt (pv 1) (pe_op op_pow pe_int pe_int) (nomark _))) (fun _ _ _ _ _ => by exact (pv 1))) (pa_cons pe_int pa_nil))))))), ?_⟩
    have hsrc : ∀ {H1 : Hp} {x1 : Option V}, Ex H H1 → Src K (⟨fun _ _ (_ : Unit) => True, fun _ h => h⟩ : OI Unit) (fun σ H R => iList K (tVar 0) σ H R ∨ iTup K (tVar 0) σ H R) [some (.ref a), x1] H1 (ns.map D.int) := fun e => src_or1 (src_sq rfl fun H2 e2 => ex_l (e.trans e2) hs)
    refine rw_ret (rw_lst (rw_cons ?_))
    refine (x_lcInts (f := fun n => decide ((10 : Int) ^ (18 : Int).toNat ≤ n)) (hsrc (x1 := none) (Ex.refl H)) (by omega) (fun n Gi Hi e1 e2 Q2 k2 => k2 [some (.ref a), some (.int n)] Hi (Ex.refl _) rfl (et_test (ev_op (ev_var (i := 1) rfl) (ev_op ev_c ev_c (rv_I ⟨by decide, by decide, by decide⟩)) rv_I0)) fun _ => ev_var (i := 1) rfl)) H (Ex.refl H) _ fun q H2 hq e2 hq2 => rw_cons (rw_c (rw_cons ?_))
    refine (x_lcInts (f := fun n => decide (n < (10 : Int) ^ (18 : Int).toNat)) (hsrc (x1 := none) e2) (by omega) (fun n Gi Hi e1 e2 Q2 k2 => k2 [some (.ref a), some (.int n)] Hi (Ex.refl _) rfl (et_test (ev_op (ev_var (i := 1) rfl) (ev_op ev_c ev_c (rv_I ⟨by decide, by decide, by decide⟩)) rv_I0)) fun _ => ev_var (i := 1) rfl)) H2 (Ex.refl H2) _ fun r H3 hr2 e3 hr3 => rw_cons (rw_c (rw_nil ⟨by show 4 ≤ sizeLine; decide, fun s hs' => ?_⟩))
    have hs3 : H s = none := fresh_back (e2.trans e3) hs'
    have hq3 := e3 q _ hq2
    have nrs : r ≠ s := fun z => by rw [z, hs'] at hr3; cases hr3
    have nrq : r ≠ q := fun z => by rw [z, hq2] at hr2; cases hr2
    have nqs : q ≠ s := fun z => by rw [z, hs'] at hq3; cases hq3
    refine k s q _ hs3 hq ((e2.trans e3).trans (Ex.new hs')) ⟨ns.filter fun n => decide ((10 : Int) ^ (18 : Int).toNat ≤ n), ns.filter fun n => decide (n < (10 : Int) ^ (18 : Int).toNat), r, 0, 0, upd_same, ?_, ?_, nrs, nrq, ?_, ?_, by decide, by decide⟩
    · rw [upd_ne nqs]; exact hq3
    · rw [upd_ne nrs]; exact hr3
    · exact Nat.le_trans (List.length_filter_le _ _) hl
    · exact Nat.le_trans (List.length_filter_le _ _) hl
/-! ### _law_pick -/
def pPick : List (D ω) → Prop := fun ds => ∃ l, ds = [.lst l] ∧ 0 < l.length ∧ l.length ≤ 1000
def rPick : List (D ω) → D ω → Prop := fun ds d => ∃ l, ds = [.lst l] ∧ d ∈ l
abbrev _law_pick_S : Stmt := topS 29
abbrev _law_pick_N : List Str := ["_law_box_here", "_law_things"]
theorem _law_pick_sc : FnScope _law_pick_N ["_law_box_here", "_law_things"] (defScope _law_pick_S) := ⟨rfl, rfl, rfl, by decide +kernel, rfl, by decide +kernel, by decide +kernel⟩
theorem ok_pick {f : Addr} {fd : FuncData} (F : Fun K "_law_pick" "_law_pick" _law_pick_S f fd) (B : Bi mg) (h__law_take : DefOk P w K mg base 1 "_law_take" ["_law_box_here", "_law_size"] (SpX K O 1 pDraw rDraw)) : FnOk P w K mg base CX0 2 f fd ["_law_box_here", "_law_things"] (SpX K O 1 pPick rPick) := by
  refine F.ok _law_pick_sc (fun vs H Q E h => ?_) (fun cdv A outer s0 H vs Q E hr h => ?_)
  · obtain ⟨G, s, q, n, ds, ws, rfl, e, gs, gq, spr, hn, as, ⟨l, rfl, h0, h1⟩, k⟩ := h
    show (V.ref s :: ws).length = 2
    rw [List.length_cons, as.len]
    rfl
  · obtain ⟨G, s, q, n, ds, ws, rfl, e, gs, gq, spr, hn, as, ⟨l, rfl, h0, h1⟩, k⟩ := h
    obtain ⟨v, r0, rfl, a, nn⟩ := atL_cons.mp as
    obtain rfl := atL_nil.mp nn
    refine ⟨_, (pss_one (ps_ret (pe_ixLK K (pv 1) (pe_callD h__law_take (hr.mono (by first | decide | exact Nat.le_refl _)) (pa_cons (pv 0) (pa_cons (pe_callB (call_lenK K) (by rfl) B.len (by decide +kernel) (pa_cons (pv 1) pa_nil)) pa_nil))) (fun _ _ => rfl)))), ?_⟩
    have hv : EvD K O (tVar 1) [some (.ref s), some v] G (.lst l) := ed_var rfl a
    refine ⟨v, rfl, x_call (i := 0) e gs gq spr hn rfl (eda_cons (ed_of (len_d hv rfl) (at_int.mpr rfl)) eda_nil) ⟨_, rfl, by show (0 : Int) < (l.length : Int); omega, by show (l.length : Int) < 1073741824; omega⟩ fun d v2 G2 H2 hR l2 sp2 a2 => ?_⟩
    obtain ⟨many, x, hm, rfl, hx0, hx1⟩ := hR
    obtain rfl := at_int.mp a2
    have hm' : (l.length : Int) = many := by
      have h2 := (List.cons.inj hm).1
      injection h2
    obtain ⟨p, vs', rfl, hsl, asl⟩ := at_lst.mp a
    have hxn : x.toNat < l.length := by omega
    obtain ⟨u, hu1, hu2⟩ := asl.get' (List.getElem?_eq_getElem hxn)
    refine ⟨p, vs', x, u, rfl, rfl, sq_of ((l2.g.trans l2.e) _ _ hsl), ?_, k _ u G2 H2 ⟨l, rfl, List.getElem_mem hxn⟩ l2 sp2 (hu2.mono l2.g)⟩
    have h3 := atI_nat hu1
    rwa [show ((x.toNat : Nat) : Int) = x by omega] at h3
/-! ### _law_prime, _law_other -/
def pPrime : List (D ω) → Prop := fun ds => ds = []
def rPrime : List (D ω) → D ω → Prop := fun ds d => ∃ p, d = .int p ∧ primes.contains p = true
end
end SR
set_option maxRecDepth 100000
set_option maxHeartbeats 4000000
namespace SR
open PySem PySem.Spec PyProof.Rows L2 Evl
section
variable {P : Program} {w : World} {K : PySem.W.Frag} {mg : Str → Option Value} {base : Heap} {ω : Type} {O : OI ω} {Ty : ω → Value}
/-- where a helper over the source stands: what it knows, what the source holds -/
structure At2 (s q : Addr) (G H : Hp) (n : Nat) : Prop where
  e : Ex G H
  gs : G s = none
  gq : G q = none
  spr : Spr H s q n
theorem At2.go {s q : Addr} {G H G2 H2 : Hp} {n k : Nat} (a : At2 s q G H n) (l : LeX s q G H G2 H2) (sp : Spr H2 s q k) : At2 s q G2 H2 k := ⟨l.e, l.gnone a.gs a.spr.sne, l.gnone a.gq a.spr.qne, sp⟩
theorem At2.le {s q : Addr} {G H G2 H2 : Hp} {n : Nat} (a : At2 s q G H n) (l : Le G H G2 H2) : At2 s q G2 H2 n := a.go l.x (a.spr.keep l.h (Nat.le_refl _))
abbrev cDraw (K : PySem.W.Frag) (O : OI ω) (E : XK) (ta : TA) : TE := tCall (SpX K O 1 pDraw rDraw) [] E (tCons (tVar 0) ta)
theorem x_draw {G H : Hp} {s q : Addr} {n : Nat} {ta : TA} {σ : L2.St} {many : Int} {E : XK} {Q : VK} (a : At2 s q G H n) (hn : n + 1 ≤ 1000000) (hv : σ[0]? = some (some (.ref s))) (ha : EvDA K O ta σ G [.int many]) (h0 : 0 < many) (h1 : many < 1073741824)
    (k : ∀ x G2 H2, 0 ≤ x → x < many → LeX s q G H G2 H2 → At2 s q G2 H2 (n + 1) → Q (.int x) H2) : cDraw K O E ta σ H Q :=
  x_call a.e a.gs a.gq a.spr hn hv ha ⟨many, rfl, h0, h1⟩ fun d v G2 H2 ⟨m', x, hm, hd, hx0, hx1⟩ l sp av => by
    subst hd
    obtain rfl := at_int.mp av
    have hm' : many = m' := D.int.inj (List.cons.inj hm).1
    exact k x G2 H2 hx0 (by omega) l (a.go l sp)
theorem eda_int {i : Int} {te : TE} {σ : L2.St} {G : Hp} (h : Ev te σ G (.int i)) : EvDA K O (tCons te tNil) σ G [.int i] := eda_cons (ed_of h (at_int.mpr rfl)) eda_nil
/-- x = draw(many) - c -/
theorem q_drawSub {G H : Hp} {s q : Addr} {n j : Nat} {ta : TA} {σ : L2.St} {many c : Int} {E : XK} {De : Ends} {tz : TS} (a : At2 s q G H n) (hn : n + 1 ≤ 1000000) (hv : σ[0]? = some (some (.ref s))) (ha : EvDA K O ta σ G [.int many]) (h0 : 0 < many) (h1 : many < 1073741824)
    (k : ∀ x G2 H2, LeX s q G H G2 H2 → At2 s q G2 H2 (n + 1) → tz De (σ.set j (some (.int x))) H2) : tSeq (tAsg (tOp (rI0 fun i j => V.int (i - j)) (cDraw K O E ta) (tC (.int c))) (gName j)) tz De σ H :=
  x_draw a hn hv ha h0 h1 fun x G2 H2 hx0 hx1 l a2 => ⟨x, c, rfl, rfl, k (x - c) G2 H2 l a2⟩
/-- if draw(many) == 0: t -/
theorem if_draw {G H : Hp} {s q : Addr} {n : Nat} {ta : TA} {σ : L2.St} {many c : Int} {E : XK} {De : Ends} {tu tw : TS} (a : At2 s q G H n) (hn : n + 1 ≤ 1000000) (hv : σ[0]? = some (some (.ref s))) (ha : EvDA K O ta σ G [.int many]) (h0 : 0 < many) (h1 : many < 1073741824)
    (k1 : ∀ G2 H2, LeX s q G H G2 H2 → At2 s q G2 H2 (n + 1) → tu De σ H2) (k2 : ∀ G2 H2, LeX s q G H G2 H2 → At2 s q G2 H2 (n + 1) → tw De σ H2) : tIfS (tTest (tOp rEq (cDraw K O E ta) (tC (.int c)))) tu tw De σ H :=
  x_draw a hn hv ha h0 h1 fun x G2 H2 hx0 hx1 l a2 => ⟨rfl, _, rfl, by
    by_cases h : V.int x = V.int c
    · rw [decide_eq_true h]
      show (if true = true then tu De σ H2 else tw De σ H2)
      rw [if_pos rfl]
      exact k1 G2 H2 l a2
    · rw [decide_eq_false h]
      show (if false = true then tu De σ H2 else tw De σ H2)
      rw [if_neg Bool.false_ne_true]
      exact k2 G2 H2 l a2⟩
/-- x = pick([ints]) -/
theorem s_pickI {G H : Hp} {s q : Addr} {n j : Nat} {ta : TA} {σ : L2.St} {ns : List Int} {E : XK} {De : Ends} (a : At2 s q G H n) (hn : n + 1 ≤ 1000000) (hv : σ[0]? = some (some (.ref s))) (ha : EvDA K O ta σ G [.lst (ns.map D.int)]) (h0 : 0 < ns.length) (h1 : ns.length ≤ 1000)
    (k : ∀ x G2 H2, x ∈ ns → LeX s q G H G2 H2 → At2 s q G2 H2 (n + 1) → De.nx (σ.set j (some (.int x))) H2) : tAsg (tCall (SpX K O 1 pPick rPick) [] E (tCons (tVar 0) ta)) (gName j) De σ H :=
  x_call a.e a.gs a.gq a.spr hn hv ha ⟨_, rfl, by rw [List.length_map]; exact h0, by rw [List.length_map]; exact h1⟩ fun d v G2 H2 ⟨l', hl, hd⟩ l sp av => by
    obtain rfl := D.lst.inj (List.cons.inj hl).1
    obtain ⟨x, hx, rfl⟩ := List.mem_map.mp hd
    obtain rfl := at_int.mp av
    exact k x G2 H2 hx l (a.go l sp)
end
end SR
set_option maxRecDepth 100000
set_option maxHeartbeats 4000000
namespace SR
open PySem PySem.Spec PyProof.Rows L2 Evl
/-- the sum of the second ones at a place -/
def totl : List (Int × Int) → Int → Int
  | [], _ => 0
  | q :: r, o => (if q.1 = o then q.2 else 0) + totl r o
theorem totl_append {a b : List (Int × Int)} {o : Int} : totl (a ++ b) o = totl a o + totl b o := by
  induction a with
  | nil => show totl b o = 0 + totl b o; omega
  | cons q r ih =>
    show (if q.1 = o then q.2 else 0) + totl (r ++ b) o = (if q.1 = o then q.2 else 0) + totl r o + totl b o
    rw [ih]
    omega
theorem totl_one {q : Int × Int} {o : Int} : totl [q] o = if q.1 = o then q.2 else 0 := by
  show (if q.1 = o then q.2 else 0) + 0 = _
  omega
theorem totl_rev {a : List (Int × Int)} {o : Int} : totl a.reverse o = totl a o := by
  induction a with
  | nil => rfl
  | cons q r ih =>
    rw [List.reverse_cons, totl_append, ih, totl_one]
    show totl r o + _ = (if q.1 = o then q.2 else 0) + totl r o
    omega
theorem coef_fold {p : Int} (hp : 0 < p) {o : Int} : ∀ {rows m : List (Int × Int)}, 0 ≤ (getI m o).getD 0 → (getI m o).getD 0 < p → (getI (rows.foldl (step p) m) o).getD 0 = ((getI m o).getD 0 + totl rows o) % p
  | [], m, h0, h1 => by
    show (getI m o).getD 0 = ((getI m o).getD 0 + 0) % p
    rw [Int.add_zero, Int.emod_eq_of_lt h0 h1]
  | q :: r, m, h0, h1 => by
    have hs : (getI (step p m q) o).getD 0 = if o = q.1 then ((getI m q.1).getD 0 + q.2) % p else (getI m o).getD 0 := by
      unfold step
      rw [getI_put, Int.fmod_eq_emod_of_nonneg _ (by omega)]
      split <;> rfl
    have h0' : 0 ≤ (getI (step p m q) o).getD 0 := by
      rw [hs]
      split
      · exact Int.emod_nonneg _ (by omega)
      · exact h0
    have h1' : (getI (step p m q) o).getD 0 < p := by
      rw [hs]
      split
      · exact Int.emod_lt_of_pos _ hp
      · exact h1
    have ih := coef_fold hp (o := o) (rows := r) (m := step p m q) h0' h1'
    show (getI (r.foldl (step p) (step p m q)) o).getD 0 = ((getI m o).getD 0 + ((if q.1 = o then q.2 else 0) + totl r o)) % p
    rw [ih, hs]
    by_cases h : o = q.1
    · rw [if_pos h, if_pos h.symm, h, Int.emod_add_emod]
      congr 1
      omega
    · rw [if_neg h, if_neg (fun z => h z.symm)]
      congr 1
      omega
theorem coef_is {p : Int} (hp : 0 < p) {rows : List (Int × Int)} {o : Int} : coef p rows o = totl rows o % p := by
  unfold coef sums
  rw [coef_fold hp (m := []) (by exact Int.le_refl 0) (by exact hp)]
  show (0 + totl rows o) % p = _
  rw [Int.zero_add]
theorem coef_ne {p : Int} {rows : List (Int × Int)} {o : Int} (h : coef p rows o ≠ 0) : o ∈ (sums p rows).map (·.1) := by
  refine getI_some.mp ?_
  unfold coef at h
  cases e : getI (sums p rows) o with
  | none => rw [e] at h; exact absurd rfl h
  | some c => rfl
theorem keys_nd {p : Int} {rows : List (Int × Int)} : (srt ((sums p rows).map (·.1))).Nodup := srt_perm.nodup_iff.mpr (sums_nd (rows := rows) (m := []) List.nodup_nil)
/-- the coefficients tell the list -/
theorem coll_ext {p p' : Int} {a b : List (Int × Int)} (h : ∀ o, coef p a o = coef p' b o) : coll p a = coll p' b := by
  have e1 : ((srt ((sums p a).map (·.1))).filter fun o => coef p a o != 0) = (srt ((sums p' b).map (·.1))).filter fun o => coef p' b o != 0 := by
    refine List.Perm.eq_of_pairwise (le := fun x y : Int => x ≤ y) (fun x y _ _ h1 h2 => Int.le_antisymm h1 h2) (srt_pair.filter _) (srt_pair.filter _) ((List.perm_ext_iff_of_nodup (keys_nd.filter _) (keys_nd.filter _)).mpr fun o => ?_)
    rw [List.mem_filter, List.mem_filter]
    constructor
    · rintro ⟨h1, h2⟩
      have h3 : coef p' b o ≠ 0 := by rw [← h o]; simpa using h2
      exact ⟨srt_perm.mem_iff.mpr (coef_ne h3), by simpa using h3⟩
    · rintro ⟨h1, h2⟩
      have h3 : coef p a o ≠ 0 := by rw [h o]; simpa using h2
      exact ⟨srt_perm.mem_iff.mpr (coef_ne h3), by simpa using h3⟩
  unfold coll
  rw [e1]
  exact List.map_congr_left fun o _ => by rw [h o]
theorem coll_tot {p : Int} (hp : 0 < p) {a b : List (Int × Int)} (h : ∀ o, ∃ z, totl a o = totl b o + p * z) : coll p a = coll p b := coll_ext fun o => by
  obtain ⟨z, hz⟩ := h o
  rw [coef_is hp, coef_is hp, hz, Int.add_mul_emod_self_left]
/-- a look-up of the list is the coefficient -/
theorem getI_coll {p : Int} {a : List (Int × Int)} {o : Int} : (getI (coll p a) o).getD 0 = coef p a o := by
  have key : ∀ l : List Int, (getI (l.map fun o => (o, coef p a o)) o) = if o ∈ l then some (coef p a o) else none := by
    intro l
    induction l with
    | nil => rfl
    | cons x r ih =>
      unfold getI at ih ⊢
      rw [List.map_cons, List.find?_cons]
      by_cases h : x = o
      · subst h
        rw [decide_eq_true rfl, if_pos (List.mem_cons_self ..)]
        rfl
      · rw [decide_eq_false h]
        rw [ih]
        by_cases h2 : o ∈ r
        · rw [if_pos h2, if_pos (List.mem_cons_of_mem _ h2)]
        · rw [if_neg h2, if_neg (by intro z; rcases List.mem_cons.mp z with z | z; exact h z.symm; exact h2 z)]
  unfold coll
  rw [key]
  by_cases h : coef p a o = 0
  · rw [h]
    split <;> rfl
  · rw [if_pos (List.mem_filter.mpr ⟨srt_perm.mem_iff.mpr (coef_ne h), by simpa using h⟩)]
    rfl
/-- one more at a place: another list -/
theorem coll_more {p : Int} (hp : 1 < p) {a : List (Int × Int)} {o : Int} : coll p (a ++ [(o, 1)]) ≠ coll p a := by
  intro h
  have h1 := getI_coll (p := p) (a := a ++ [(o, 1)]) (o := o)
  rw [h, getI_coll, coef_is (by omega), coef_is (by omega), totl_append, totl_one] at h1
  simp only [if_true] at h1
  have h2 := Int.emod_nonneg (totl a o) (show p ≠ 0 by omega)
  have h3 := Int.emod_lt_of_pos (totl a o) (show 0 < p by omega)
  have h4 := Int.emod_add_mul_ediv (totl a o) p
  have h5 := Int.emod_add_mul_ediv (totl a o + 1) p
  rw [← h1] at h5
  have h6 : p * ((totl a o + 1) / p) - p * (totl a o / p) = 1 := by omega
  rw [← Int.mul_sub] at h6
  have h7 : p ∣ 1 := ⟨_, h6.symm⟩
  have h8 := Int.le_of_dvd (by decide) h7
  omega
section
variable {ω : Type} {K : PySem.W.Frag} {O : OI ω} {G : Hp} {te : TE} {σ : L2.St} {l : List (D ω)}
theorem AtL.rev : ∀ {l : List (D ω)} {vs : List V}, AtL K O G l vs → AtL K O G l.reverse vs.reverse
  | [], vs, h => by rw [atL_nil.mp h]; exact atL_nil.mpr rfl
  | d :: l, vs, h => by
    obtain ⟨v, r, rfl, h1, h2⟩ := atL_cons.mp h
    rw [List.reverse_cons, List.reverse_cons]
    exact (AtL.rev h2).app (AtL.one h1)
theorem AtL.take : ∀ {n : Nat} {l : List (D ω)} {vs : List V}, AtL K O G l vs → AtL K O G (l.take n) (vs.take n)
  | 0, l, vs, h => atL_nil.mpr rfl
  | n + 1, [], vs, h => by rw [atL_nil.mp h]; exact atL_nil.mpr rfl
  | n + 1, d :: l, vs, h => by
    obtain ⟨v, r, rfl, h1, h2⟩ := atL_cons.mp h
    exact atL_cons.mpr ⟨v, _, rfl, h1, AtL.take (n := n) h2⟩
theorem AtL.drop : ∀ {n : Nat} {l : List (D ω)} {vs : List V}, AtL K O G l vs → AtL K O G (l.drop n) (vs.drop n)
  | 0, l, vs, h => h
  | n + 1, [], vs, h => by rw [atL_nil.mp h]; exact atL_nil.mpr rfl
  | n + 1, d :: l, vs, h => by
    obtain ⟨v, r, rfl, h1, h2⟩ := atL_cons.mp h
    exact AtL.drop (n := n) h2
theorem ed_rev (h : EvD K O te σ G (.lst l)) : EvD K O (tRevL K te) σ G (.lst l.reverse) := fun H1 e Q k =>
  h H1 e _ fun v G2 H2 le a => by
    obtain ⟨p, vs, rfl, hs, as⟩ := at_lst.mp a
    exact ⟨p, vs, rfl, sq_of (le.e _ _ hs), fun q hq => k _ (upd G2 q (.lst vs.reverse)) _ (le.trans (Le.new le.e hq)) (at_lst.mpr ⟨q, _, rfl, upd_same, as.rev.mono (Ex.new (none_of_ex le.e hq))⟩)⟩
end
end SR
set_option maxRecDepth 100000
set_option maxHeartbeats 4000000
/-! Own operators: with an int, in place. -/
namespace SR
open PySem PySem.Spec PyProof.Rows L2
section
variable {prog : Program} {w : World} {M : Model} {A : Around} {E : Value → Shared → Prop} {s : Shared} {K : PySem.W.Frag} {x C L f : Addr} {h₀ : Heap} {m : Str → Option Value} {ox : Obj} {od : Option Obj} {nm : String}
open PySem.W
/-- the class has no in-place method of that name -/
theorem fillsI_none {h : Heap} {cd : ClassData} {add : Bool} (X : K.In h) (hc : clsIn K C = some cd) (hm : cd.mro = [.ref C, .type "object"]) (h1 : findIn K (.ref C) (dunderI nm) = some none) (h2 : findIn K (.type "object") (dunderI nm) = some none) : Looks M h (fillsInplaceSlot (.ref C) nm add) false := by
  intro A Q E s k q
  have Lm : Looks M h (mroOf (.ref C)) cd.mro := (looks_clsIn X hc).andThen (f := fun cd => pure cd.mro) .now
  have Lm' := Lm.keeps k
  obtain ⟨hh, g, d, tt, os⟩ := s
  have X' : K.In hh := X.keeps k
  have L1 : Looks M hh (typeLookup (.ref C) (dunderI nm)) none := looks_findIn X' h1
  have L2 : Looks M hh (typeLookup (.type "object") (dunderI nm)) none := looks_findIn X' h2
  unfold fillsInplaceSlot
  refine wpAny_bind (Lm'.at ?_)
  rw [hm, List.anyM_cons, List.anyM_cons, List.anyM_nil]
  refine wpAny_bind ?_
  repeat lk
  exact q
theorem ip_K {op : Operator} {b : Value} {Q : Value → Shared → Prop} {cd : ClassData} (F : Fr h₀ L s.heap m) (X₀ : K.In h₀) (I : InstAt s.heap x ox C od) (hb : Looks (model prog w) s.heap (typeOf b) (.ref C)) (hc : clsIn K C = some cd) (hm : cd.mro = [.ref C, .type "object"])
    (h1 : findIn K (.ref C) (dunderI op.info.2) = some none) (h2 : findIn K (.type "object") (dunderI op.info.2) = some none) (hs : findIn K (.ref C) (PySem.dunder op.info.2) = some (some (.ref f))) (hf : isFn K (.ref f) = true)
    (h : wpAny (model prog w) A (call (.ref f) [.ref x, b]) (PySem.W.CmpBack Q) E s) : wpAny (model prog w) A (inplaceOp op (.ref x) b) Q E s := by
  have X := X₀.keeps F.keep
  unfold inplaceOp
  refine wpAny_holding (wpAny_bind (I.type.here (wpAny_bind ((fillsI_none X hc hm h1 h2).here ?_))))
  simp only [Bool.false_eq_true, if_false]
  refine wpAny_bind ?_
  unfold binaryOp1
  refine wpAny_bind (I.type.here (wpAny_bind (hb.here (wpAny_bind ((fills_K X hc hm hs).here ?_)))))
  simp only [beq_self_eq_true, if_true]
  refine wpAny_bind (wpAny_pure ?_)
  simp only [Bool.and_false, Bool.false_eq_true, if_false, Bool.false_and]
  refine wpAny_bind (wpAny_pure ?_)
  simp only [Bool.false_eq_true, if_false]
  refine wpAny_bind (m := tryMethod (.ref x) _ b) ?_
  unfold tryMethod
  refine wpAny_bind (special_fn X I hs (beq_iff_eq.mp hf) (wpAny_mono h (fun v s' hv => ?_) fun _ _ e => e))
  cases v <;> first | exact hv.elim | exact wpAny_pure (wpAny_pure (wpAny_pure hv))
end
section
variable {X : Cx} {CX : CXT} {pins : List (Addr × Obj)} {σ : L2.St} {H : Hp} {s : Shared} {a C dx g : Addr} {fs : List (Str × V)} {fd : FuncData} {ps : List Str} {n : Nat} {sp : Sp} {E : XK}
theorem ip_binOwn {op : Operator} {cd : ClassData} (hc : PySem.W.clsIn X.K C = some cd) (hm : cd.mro = [.ref C, .type "object"]) (h1 : PySem.W.findIn X.K (.ref C) (PySem.dunderI op.info.2) = some none) (h2 : PySem.W.findIn X.K (.type "object") (PySem.dunderI op.info.2) = some none)
    (hs : PySem.W.findIn X.K (.ref C) (PySem.dunder op.info.2) = some (some (.ref g))) (hf : PySem.W.isFn X.K (.ref g) = true) (F : FnOk X.prog X.w X.K X.mg X.base CX n g fd ps sp)
    (hr : Room n X.A) (hb : Binds X.K fd ps []) (hx : Passes CX X E) : PIp X op (rBinOwn C sp E) := by
  intro pins s σ H x y v u Q I rx ry h
  obtain ⟨a, dx, fs, b, dy, gs, rfl, rfl, ha, hb', q⟩ := h
  cases (show v = Value.ref a from rx)
  cases (show u = Value.ref b from ry)
  obtain ⟨od, J⟩ := ins_inst I ha
  obtain ⟨od', J'⟩ := ins_inst I hb'
  obtain ⟨m, hF⟩ := I.fr
  refine ip_K (op := op) hF I.ok.mod.kin J J'.type hc hm h1 h2 hs hf ?_
  refine wpAny_mono (run_fn (us := [.ref a, .ref b]) (vs := [.ref a, .ref b]) F hr hb .nil hx I (.cons rfl (.cons rfl .nil)) (by exact q)) (fun w s' z => ?_) fun _ _ x => x
  obtain ⟨z', H', I', rz, qz⟩ := z
  exact not_ni rz ⟨z', H', I', rz, qz⟩
/-- x op y, y an int -/
def rBinInt (C : Addr) (sp : Sp) (E : XK) : R2 := fun x y H Q => ∃ a dx fs i, x = .ref a ∧ y = .int i ∧ H a = some (.ins C dx fs) ∧ sp [x, y] H Q E
theorem op_binInt {op : Operator} {fo ro rc : Option Value} (hc : PySem.W.selfFirst X.K C = true) (hs : PySem.W.findIn X.K (.ref C) (PySem.dunder op.info.2) = some (some (.ref g))) (hf : PySem.W.isFn X.K (.ref g) = true)
    (hR : PySem.W.findIn X.K (.ref C) (PySem.dunderR op.info.2) = some rc) (hp : rc = none ∨ ∃ g : Addr, rc = some (.ref g)) (h1 : PySem.W.findIn X.K (.type "int") (PySem.dunder op.info.2) = some fo) (h2 : PySem.W.findIn X.K (.type "int") (PySem.dunderR op.info.2) = some ro) (hsub : PySem.W.subIn X.K (.type "int") (.ref C) = some false)
    (F : FnOk X.prog X.w X.K X.mg X.base CX n g fd ps sp) (hr : Room n X.A) (hb : Binds X.K fd ps []) (hx : Passes CX X E) : OpR X (binaryOp op) (rBinInt C sp E) := by
  intro pins s σ H x y v u Q I rx ry h
  obtain ⟨a, dx, fs, i, rfl, rfl, ha, q⟩ := h
  cases (show v = Value.ref a from rx)
  obtain ⟨t, rfl⟩ := ry
  obtain ⟨od, J⟩ := ins_inst I ha
  obtain ⟨m, hF⟩ := I.fr
  refine PySem.W.ksp_binT (op := op) hF I.ok.mod.kin J rfl hc hs hf hR hp h1 h2 hsub ?_
  refine wpAny_mono (run_fn (us := [.ref a, .int i t]) (vs := [.ref a, .int i]) F hr hb .nil hx I (.cons rfl (.cons ⟨t, rfl⟩ .nil)) (by exact q)) (fun w s' z => ?_) fun _ _ x => x
  obtain ⟨z', H', I', rz, qz⟩ := z
  exact not_ni rz ⟨z', H', I', rz, qz⟩
end
end SR
set_option maxRecDepth 100000
set_option maxHeartbeats 4000000
/-! Own operators by what they promise. -/
namespace SR
open PySem PySem.Spec PyProof.Rows L2 Evl
section
variable (P : Program) (w : World) (K : PySem.W.Frag) (mg : Str → Option Value) (base : Heap)
structure BinOk (C : Addr) (k : Nat) (op : Operator) (sp : Sp) : Prop where
  ex : ∃ g fd ps, PySem.W.selfFirst K C = true ∧ PySem.W.findIn K (.ref C) (PySem.dunder op.info.2) = some (some (.ref g)) ∧ PySem.W.isFn K (.ref g) = true ∧ Binds K fd ps [] ∧ FnOk P w K mg base CX0 k g fd ps sp
structure IntOk (C : Addr) (op : Operator) : Prop where
  ex : ∃ fo ro rc, PySem.W.findIn K (.ref C) (PySem.dunderR op.info.2) = some rc ∧ (rc = none ∨ ∃ g : Addr, rc = some (.ref g)) ∧ PySem.W.findIn K (.type "int") (PySem.dunder op.info.2) = some fo ∧ PySem.W.findIn K (.type "int") (PySem.dunderR op.info.2) = some ro ∧ PySem.W.subIn K (.type "int") (.ref C) = some false
structure InOk (C : Addr) (op : Operator) : Prop where
  ex : ∃ cd, PySem.W.clsIn K C = some cd ∧ cd.mro = [.ref C, .type "object"] ∧ PySem.W.findIn K (.ref C) (PySem.dunderI op.info.2) = some none ∧ PySem.W.findIn K (.type "object") (PySem.dunderI op.info.2) = some none
end
section
variable {X : Cx} {k : Nat} {C : Addr} {sp : Sp} {op : Operator}
theorem op_binD (h : BinOk X.prog X.w X.K X.mg X.base C k op sp) (hr : Room k X.A) : OpR X (binaryOp op) (rBinOwn C sp E0) := by
  obtain ⟨g, fd, ps, hc, hs, hf, hb, F⟩ := h.ex
  exact op_binOwn hc hs hf F hr hb pass0
theorem op_intD (h : BinOk X.prog X.w X.K X.mg X.base C k op sp ∧ IntOk X.K C op) (hr : Room k X.A) : OpR X (binaryOp op) (rBinInt C sp E0) := by
  obtain ⟨g, fd, ps, hc, hs, hf, hb, F⟩ := h.1.ex
  obtain ⟨fo, ro, rc, h1, h2, h3, h4, h5⟩ := h.2.ex
  exact op_binInt hc hs hf h1 h2 h3 h4 h5 F hr hb pass0
theorem ip_binD (h : BinOk X.prog X.w X.K X.mg X.base C k op sp) (i : InOk X.K C op) (hr : Room k X.A) : PIp X op (rBinOwn C sp E0) := by
  obtain ⟨g, fd, ps, hc, hs, hf, hb, F⟩ := h.ex
  obtain ⟨cd, h1, h2, h3, h4⟩ := i.ex
  exact ip_binOwn h1 h2 h3 h4 hs hf F hr hb pass0
end
section
variable {K : PySem.W.Frag} {C : Addr} {G H : Hp} {ta tb : TE} {σ : L2.St} {w u : FilS} {d : D FilS} {R : List (D FilS) → D FilS → Prop}
def bin2 (r : R2) (H : Hp) (Q : VK) : List V → Prop
  | [x, y] => r x y H Q
  | _ => False
theorem bin_go {vs : List V} {Q : VK} (e : Ex G H) (as : AtL K (FilO K C) G [.obj w, .obj u] vs) (r : R [.obj w, .obj u] d) (k : RetG K (FilO K C) d G H Q) : bin2 (rBinOwn C (SpD K (FilO K C) R) E0) H Q vs := by
  obtain ⟨v1, r1, rfl, a1, n1⟩ := atL_cons.mp as
  obtain ⟨v2, r2, rfl, a2, n2⟩ := atL_cons.mp n1
  obtain rfl := atL_nil.mp n2
  obtain ⟨x, rfl, dx, tp, o, ts, kd, g1, _⟩ := at_obj.mp a1
  obtain ⟨y, rfl, dy, tp', o', ts', kd', g1', _⟩ := at_obj.mp a2
  exact ⟨x, dx, _, y, dy, _, rfl, rfl, e _ _ g1, e _ _ g1', G, [.obj w, .obj u], d, e, as, r, k⟩
/-- f op g -/
theorem ed_binF (h1 : EvD K (FilO K C) ta σ G (.obj w)) (h2 : EvD K (FilO K C) tb σ G (.obj u)) (r : R [.obj w, .obj u] d) : EvD K (FilO K C) (tOp (rBinOwn C (SpD K (FilO K C) R) E0) ta tb) σ G d := fun H1 e Q k =>
  (eda_cons h1 (eda_cons h2 eda_nil)) H1 e (fun vs H2 => bin2 (rBinOwn C (SpD K (FilO K C) R) E0) H2 Q vs) fun vs G2 H2 l as => bin_go l.e as r (k.mono l)
/-- f op n -/
theorem ed_intF {n : Int} (h1 : EvD K (FilO K C) ta σ G (.obj w)) (h2 : Ev tb σ G (.int n)) (r : R [.obj w, .int n] d) : EvD K (FilO K C) (tOp (rBinInt C (SpD K (FilO K C) R) E0) ta tb) σ G d := fun H1 e Q k =>
  h1 H1 e _ fun v G2 H2 l a => h2 H2 (l.g.trans l.e) _ fun H3 e3 => by
    obtain ⟨x, rfl, dx, tp, o, ts, kd, g1, gg⟩ := at_obj.mp a
    have l3 := l.trans (Le.heap l.e e3)
    exact ⟨x, dx, _, n, rfl, rfl, l3.e _ _ g1, G2, [.obj w, .int n], d, l3.e, atL_cons.mpr ⟨_, _, rfl, a, AtL.one (at_int.mpr rfl)⟩, r, k.mono l3⟩
/-- f op= g -/
theorem q_augF {i : Nat} {v : V} {De : Ends} {tz : TS} (hv : σ[i]? = some (some v)) (a : At K (FilO K C) G (.obj w) v) (h2 : EvD K (FilO K C) tb σ G (.obj u)) (r : R [.obj w, .obj u] d) (e : Ex G H) (k : ∀ z G2 H2, Le G H G2 H2 → At K (FilO K C) G2 d z → tz De (σ.set i (some z)) H2) :
    tSeq (tAug i tb (rBinOwn C (SpD K (FilO K C) R) E0)) tz De σ H := ⟨v, hv, h2 H e _ fun y G2 H2 l a2 => bin_go (vs := [v, y]) l.e (atL_cons.mpr ⟨_, _, rfl, a.mono l.g, AtL.one a2⟩) r fun z G3 H3 l3 a3 => k z G3 H3 (l.trans l3) a3⟩
end
/-- {k: v} -/
theorem ed_disp1 {ω : Type} {K : PySem.W.Frag} {O : OI ω} {G : Hp} {σ : L2.St} {tk tv : TE} {o c : Int} (h1 : Ev tk σ G (.int o)) (h2 : Ev tv σ G (.int c)) : EvD K O (tDisp [(tk, tv)]) σ G (.dic [(o, c)]) := fun H1 e Q k p hp =>
  have l := Le.newM (o := .dK []) e hp
  h1 _ l.e _ fun H2 e2 => h2 H2 (l.e.trans e2) _ fun H3 e3 => by
    have hp3 : H3 p = some (.dK []) := e3 p _ (e2 p _ upd_same)
    refine ⟨hp3, [(Sum.inl o, .int c)], rfl, by show 1 ≤ 15; decide, ?_⟩
    have l3 : Le G H1 G H3 := l.trans (Le.heap l.e (e2.trans e3))
    refine k (.ref p) (upd G p (.dK (kvI [(o, c)]))) _ ?_ (at_dic.mpr ⟨p, rfl, upd_same⟩)
    have l4 := l3.mut (o := .dK (kvI [(o, c)])) hp (none_of_ex e hp)
    have l5 := Le.fix e l4 hp upd_same
    exact l5
end SR
set_option maxRecDepth 100000
set_option maxHeartbeats 4000000
/-! try with several clauses «except X as n». -/
namespace SR
open PySem PySem.Spec PyProof.Rows L2
/-- .. slot i loses its value behind the suite -/
def endAs (D : Ends) (i : Nat) : Ends := ⟨fun z K1 => D.nx (z.set i none) K1, D.rt, fun z K1 => D.bk (z.set i none) K1, fun z K1 => D.ct (z.set i none) K1⟩
abbrev Clause := Value × Nat × (Addr → Value → Option Addr → TS)
/-- what the clauses, one behind the other, wish of an exception -/
def wAll (K : PySem.W.Frag) (Wo : WX) (D : Ends) : List Clause → WX
  | [] => Wo
  | q :: r => fun cls d z K1 => ∃ y, PySem.W.exmOne K cls q.1 = some y ∧ (y = true → ∀ a, K1 a = none → q.2.2 a cls d (endAs D q.2.1) (z.set q.2.1 (some (.ref a))) K1) ∧ (y = false → wAll K Wo D r cls d z K1)
inductive Clauses (X : Cx) : List ExceptHandler → List Clause → Prop
  | nil : Clauses X [] []
  | cons {x n : Str} {c : Value} {i : Nat} {ts : Addr → Value → Option Addr → TS} {b0 : Stmt} {suite : List Stmt} {np p : Pos} {hds : List ExceptHandler} {l : List Clause} (hc : Names X x c) (hi : X.N[i]? = some n) (hl : X.env.kindOf n = some .local)
      (hsu : ∀ (a : Addr) (oe : Obj) (cls : Value) (d : Option Addr) (pn : List (Addr × Obj)), Zc cls d oe → (∃ vs, oe.data = .fields vs) → PSs (X.suite a ((a, oe) :: pn)) (b0 :: suite) (ts a cls d)) (r : Clauses X hds l) :
      Clauses X (.ExceptHandler (some (.Name x np)) (some n) (b0 :: suite) p :: hds) ((c, i, ts) :: l)
section
variable {X : Cx} {pins : List (Addr × Obj)} {σ : L2.St} {H : Hp} {D : Ends} {Wo : WX}
/-- an exception in flight stands in no frame -/
theorem fly_out {B h : Heap} {l : List Env} {a : Addr} {Z : Obj → Prop} (x : HandSPX.FlyingZ B l a Z h) : a ∉ frs l := fun hm => by
  obtain ⟨oe, vs, he, _, hd⟩ := x.there
  obtain ⟨_, o, e, hnf⟩ := x.2.2.1.mem hm
  rw [he] at e
  cases e
  exact hnf _ hd
/-- an exception caught: where it flies, what stood when it was raised -/
structure Caught (X : Cx) (pins : List (Addr × Obj)) (σ : L2.St) (H : Hp) (B : Heap) (sI s' : Shared) (a : Addr) (cls : Value) (d : Option Addr) (h3 : Heap) : Prop where
  J : Inv X pins σ H sI
  nb : ∀ b o, sI.heap.get? b = some o → b ∉ frs X.stack → B.get? b = some o
  up : sI.heap.UpToSlots h3
  os : s'.os = sI.os
  ag : AllBare s'.gens
  na : H a = none
  fl : HandSPX.FlyingZ B (X.env :: X.outer) a (Zc cls d) h3
section
variable {B h3 : Heap} {sI s' : Shared} {a : Addr} {cls : Value} {d : Option Addr}
theorem Caught.inv (c : Caught X pins σ H B sI s' a cls d h3) : Inv X pins σ H { s' with heap := h3 } :=
  c.J.landed c.nb c.fl.1 c.up c.os c.ag
/-- .. as a suite sees it -/
theorem Caught.inSuite (c : Caught X pins σ H B sI s' a cls d h3) (hs : X.stack = X.env :: X.outer) (hf : X.env.frame = some X.env.locals) :
    ∃ oe, h3.get? a = some oe ∧ Zc cls d oe ∧ (∃ vs, oe.data = .fields vs) ∧ Inv (X.suite a ((a, oe) :: (X.pn ++ pins))) [] σ H { s' with heap := h3 } := by
  obtain ⟨oe, vs, g1, g2, g3⟩ := c.fl.there
  have out := fly_out c.fl
  have n1 : a ≠ X.env.locals := by
    intro z
    apply out
    rw [z]
    exact List.mem_filterMap.mpr ⟨X.env, List.mem_cons_self, hf⟩
  have n2 : a ∉ X.fs := by
    intro hm
    obtain ⟨y, hy, hz⟩ := List.mem_filterMap.mp hm
    exact out (List.mem_filterMap.mpr ⟨y, List.mem_cons_of_mem _ hy, hz⟩)
  exact ⟨oe, g1, g2, ⟨vs, g3⟩, c.inv.suite g1 g3 c.na n1 n2⟩
/-- no clause fits: it goes on -/
theorem Caught.on (c : Caught X pins σ H B sI s' a cls d h3) (hs : X.stack = X.env :: X.outer) (hf : X.env.frame = some X.env.locals) (tk : Takes X Wo) (w : Wo cls d σ H) :
    wpAny (model X.prog X.w) X.A (handleBy (.ref a) X.env []) (SP X pins D) X.xe { s' with heap := h3 } := by
  obtain ⟨_, _, _, oe, vs, T, oT, _, g1, g2, g3, g4, g5⟩ := id c.fl
  have go : wpAny (model X.prog X.w) X.A (setFlight (.ref a) X.env.frame) (fun _ u => wpAny (model X.prog X.w) X.A (throw (.ref a) : Sem Flow) (SP X pins D) X.xe u) X.xe { s' with heap := h3 } := by
    rw [hf]
    refine HandSPX.setFlight_upZ c.fl fun h4 fly up4 => ?_
    apply wpAny_throw
    refine tk _ _ ⟨a, B, sI, pins, σ, H, cls, d, rfl, c.J, c.nb, c.up.trans up4, Or.inr (Or.inr ?_), c.na, c.os, c.ag, w⟩
    rw [hs]
    exact fly
  apply wpAny_handleBy_nil
  unfold PySem.passOn
  apply wpAny_bind
  apply wpAny_field g1 g3 g4
  rw [if_neg (by simp)]
  first
    | exact wpAny_bind go
    | exact wpAny_bind (wpAny_pure (wpAny_bind go))
/-- the clauses from left to right -/
theorem Caught.all {hds : List ExceptHandler} {l : List Clause} (k : Clauses X hds l) (c : Caught X pins σ H B sI s' a cls d h3) (ok : X.Ok) (hN : X.N.Nodup) (hs : X.stack = X.env :: X.outer) (hf : X.env.frame = some X.env.locals) (tk : Takes X Wo)
    (w : wAll X.K Wo D l cls d σ H) : wpAny (model X.prog X.w) X.A (handleBy (.ref a) X.env hds) (SP X pins D) X.xe { s' with heap := h3 } := by
  induction k with
  | nil => exact c.on hs hf tk w
  | @cons x n ce i ts b0 suite np p hds' l' hc hi hl hsu r ih =>
    obtain ⟨y, hy, w1, w0⟩ := w
    obtain ⟨oe, g1, g2, g3, S3⟩ := c.inSuite hs hf
    have ty : PySem.W.Looks (model X.prog X.w) h3 (typeOf (.ref a)) cls := by
      intro A Q E s k q
      refine wpAny_typeOf_ref (k _ _ g1) ?_
      rw [g2.1]
      exact q
    have fits := PySem.W.exm_one (M := model X.prog X.w) c.inv.kIn ty hy
    have name : ∀ {Q E : Value → Shared → Prop}, Q ce { s' with heap := h3 } → wpAny (model X.prog X.w) (X.A.mark (some (.ref a))) (eval (.Name x np) X.env) Q E { s' with heap := h3 } := by
      intro Q E q
      obtain ⟨m1, m2, m3⟩ := hc
      rcases m3 with m3 | ⟨m3, m4, m5⟩
      · exact ld_glob (X := X.suite a ((a, oe) :: (X.pn ++ pins))) S3 m1 m3 q m2
      · exact ld_blt (X := X.suite a ((a, oe) :: (X.pn ++ pins))) S3 m1 m3 m4 q m5 m2
    apply wpAny_handleBy_cons (codeAny_handlers_test ?_) (by intro q; cases q)
    apply name
    apply fits.here
    cases y with
    | false => exact ih (w0 rfl)
    | true =>
      apply codeAny_handlers_suite_as
      refine HandSPX.lands_againZ c.fl fun h4 fly up4 => ?_
      have c4 : Caught X pins σ H B sI s' a cls d h4 := ⟨c.J, c.nb, c.up.trans up4, c.os, c.ag, c.na, fly⟩
      obtain ⟨o4, k1, k2, k3, S4⟩ := c4.inSuite hs hf
      refine store_ok (X := X.suite a ((a, o4) :: (X.pn ++ pins))) (v := .ref a) S4 hN hi (Or.inl hl) rfl (fun s5 S5 => ?_) (Or.inr hl)
      have gone : ∀ {z : L2.St} {K1 : Hp} {s6 : Shared} {Q : Shared → Prop}, Inv (X.suite a ((a, o4) :: (X.pn ++ pins))) [] z K1 s6 → (∀ s7, Inv X pins (z.set i none) K1 s7 → Q s7) → wpAny (model X.prog X.w) X.A (do bindName X.env n .none; unbindBehindTheSuite X.env n p) (fun _ s7 => Q s7) X.xe s6 :=
        fun S6 hq => gone_ok (S6.unsuite ok) hN hi hl hq
      refine wpAny_mono ((hsu a o4 cls d (X.pn ++ pins) k2 k3).run [] s5 _ H _ S5 (w1 rfl a c.na)) ?_ fun _ _ z => z.elim
      intro f s6 q6
      cases f with
      | ret u =>
        obtain ⟨v6, z, K1, S6, r6, q6⟩ := q6
        exact gone S6 fun _ J7 => ⟨v6, _, K1, J7, r6, q6⟩
      | next =>
        obtain ⟨z, K1, S6, q6⟩ := q6
        exact gone S6 fun _ J7 => ⟨_, K1, J7, q6⟩
      | brk =>
        obtain ⟨z, K1, S6, q6⟩ := q6
        exact gone S6 fun _ J7 => ⟨_, K1, J7, q6⟩
      | cont =>
        obtain ⟨z, K1, S6, q6⟩ := q6
        exact gone S6 fun _ J7 => ⟨_, K1, J7, q6⟩
end
variable {body : List Stmt} {h0 : ExceptHandler} {hds : List ExceptHandler} {l : List Clause} {pos : Pos} {tb : WX → TS}
/-- try: body / except x as n: .. / except y as m: .. -/
theorem ps_try_all (hs : X.stack = X.env :: X.outer) (hf : X.env.frame = some X.env.locals) (hN : X.N.Nodup) (tk : Takes X Wo)
    (hb : ∀ (W : WX) (pn : List (Addr × Obj)) (xe : Value → Shared → Prop), Takes (X.tr pn xe) W → PassesOwn (model X.prog X.w) X.A X.env xe → PSs (X.tr pn xe) body (tb W)) (hh : Clauses X (h0 :: hds) l) :
    PS X (.Try body (h0 :: hds) [] [] pos) (fun D σ H => tb (wAll X.K Wo D l) D σ H) := by
  constructor
  intro pins s σ H D I h
  have ok := I.ok
  have fr : X.A.frames = some (X.env :: X.outer) := ok.frames.trans (congrArg some hs)
  let xe' : Value → Shared → Prop := fun e s1 => wpAny (model X.prog X.w) X.A (noteFrame e X.env) (fun _ s2 => wpAny (model X.prog X.w) X.A (setFlight e none) (fun _ s3 => wpAny (model X.prog X.w) X.A (handleBy e X.env (h0 :: hds)) (SP X pins D) X.xe s3) X.xe s2) X.xe s1
  have tk' : Takes (X.tr (X.pn ++ pins) xe') (wAll X.K Wo D l) := by
    rintro u s' ⟨a, B, sI, pins', z, K1, cls, d, rfl, J', nb, up, sky, na, os, ag, w⟩
    have J : Inv X pins z K1 sI := J'.ofTry ok
    have sky' : Sky B (X.env :: X.outer) a (Zc cls d) X.env.locals s'.heap := hs ▸ sky
    show wpAny (model X.prog X.w) X.A (noteFrame (.ref a) X.env) _ _ _
    refine Sky.land Zc.steady fr hf sky' fun h3 fly up3 => ?_
    have c : Caught X pins z K1 B sI s' a cls d h3 := ⟨J, nb, up.trans up3, os, ag, na, fly⟩
    exact c.all hh ok hN hs hf tk w
  apply wpAny_Try_except
  refine wpAny_mono ((hb _ (X.pn ++ pins) xe' tk' PassesOwn.looking).run [] s σ H D (I.toTry _) h) ?_ fun _ _ z => z
  intro f s1 q
  cases f with
  | next =>
    obtain ⟨z, K1, J', q⟩ := q
    exact wpAny_execs_nil ⟨z, K1, J'.ofTry ok, q⟩
  | ret u =>
    obtain ⟨v, z, K1, J', r, q⟩ := q
    exact ⟨v, z, K1, J'.ofTry ok, r, q⟩
  | brk =>
    obtain ⟨z, K1, J', q⟩ := q
    exact ⟨z, K1, J'.ofTry ok, q⟩
  | cont =>
    obtain ⟨z, K1, J', q⟩ := q
    exact ⟨z, K1, J'.ofTry ok, q⟩
end
end SR
set_option maxRecDepth 100000
set_option maxHeartbeats 4000000
/-! Defs over data that may raise. -/
namespace SR
open PySem PySem.Spec PyProof.Rows L2 Evl
/-- what flies: its class, perhaps a field -/
abbrev XOut (ω : Type) := Addr × Option (Str × D ω)
section
variable {ω : Type} (K : PySem.W.Frag) (O : OI ω)
def ExcG (x : XOut ω) (G H : Hp) (E : XK) : Prop := match x.2 with
  | none => ∀ G2 H2, Le G H G2 H2 → E (.ref x.1) none H2
  | some fd => ∀ a v G2 H2, Le G H G2 H2 → H a = none → G2 a = some (.xd [(fd.1, v)]) → At K O G2 fd.2 v → E (.ref x.1) (some a) H2
/-- what a def comes to -/
def Out (G H : Hp) (Q : VK) (E : XK) : D ω ⊕ XOut ω → Prop
  | .inl d => RetG K O d G H Q
  | .inr x => ExcG K O x G H E
def SpE (R : List (D ω) → D ω ⊕ XOut ω → Prop) : Sp := fun vs H Q E => ∃ G ds r, Ex G H ∧ AtL K O G ds vs ∧ R ds r ∧ Out K O G H Q E r
end
section
variable {ω : Type} {K : PySem.W.Frag} {O : OI ω} {G G1 H H1 : Hp} {E : XK} {x : XOut ω} {σ : L2.St} {t : TA} {d : D ω} {ds : List (D ω)}
theorem ExcG.mono (l : Le G H G1 H1) (k : ExcG K O x G H E) : ExcG K O x G1 H1 E := by
  obtain ⟨C, f⟩ := x
  cases f with
  | none => exact fun G2 H2 l2 => k G2 H2 (l.trans l2)
  | some fd => exact fun a v G2 H2 l2 hn ha hv => k a v G2 H2 (l.trans l2) (l.back hn) ha hv
/-- no error leaves a def that nobody lets raise -/
theorem FnOk.noE {P : Program} {w : World} {mg : Str → Option Value} {base : Heap} {k : Nat} {f : Addr} {fd : FuncData} {ps : List Str} {sp : Sp} (F : FnOk P w K mg base (L2.CX P w) k f fd ps sp) : FnOk P w K mg base CX0 k f fd ps (fun vs H Q _ => sp vs H Q E0) := by
  refine ⟨fun vs H Q E h => F.len vs H Q E0 h, fun A outer s H args us vs Q E hr e0 b r h => ?_⟩
  refine codeAny_mono (F.run A outer s H args us vs Q E0 hr e0 b r h) fun res s' q => ?_
  cases res with
  | ok fl => cases fl <;> exact q
  | error er =>
    obtain ⟨_, _, _, _, _, _, _, _, _, _, _, _, z⟩ := (show L2.CX P w outer H s E0 er s' from q)
    exact z.elim
theorem FnOk.ret {P : Program} {w : World} {mg : Str → Option Value} {base : Heap} {k : Nat} {f : Addr} {fd : FuncData} {ps : List Str} {R : List (D ω) → D ω ⊕ XOut ω → Prop} {R' : List (D ω) → D ω → Prop}
    (F : FnOk P w K mg base (L2.CX P w) k f fd ps (SpE K O R)) (h : ∀ ds d, R' ds d → R ds (.inl d)) : FnOk P w K mg base CX0 k f fd ps (SpD K O R') :=
  (FnOk.noE F).imp fun vs H Q E ⟨G, ds, d, e, as, r, kk⟩ => ⟨G, ds, .inl d, e, as, h ds d r, kk⟩
theorem ed_callS {R : List (D ω) → D ω ⊕ XOut ω → Prop} {E : L2.St → XK} (h : EvDA K O t σ G ds) (r : R ds (.inl d)) : EvD K O (tCallS (SpE K O R) E t) σ G d := fun H1 e Q k =>
  h H1 e _ fun vs G2 H2 l as => ⟨G2, ds, .inl d, l.e, as, r, RetG.mono l k⟩
theorem x_callS {R : List (D ω) → D ω ⊕ XOut ω → Prop} {E : L2.St → XK} {Q : VK} (h : EvDA K O t σ G ds) (e : Ex G H) (r : R ds (.inr x)) (k : ExcG K O x G H (E σ)) : tCallS (SpE K O R) E t σ H Q :=
  h H e _ fun vs G2 H2 l as => ⟨G2, ds, .inr x, l.e, as, r, k.mono l⟩
end
/-! ### an own class of errors, without __init__ -/
section
variable {X : Cx} {C : Addr} {bmB : List Value} {B newId initId : String}
/-- C() -/
theorem pmk_none {x : Str} {p pos : Pos} (F : ExcBaseFacts B newId initId bmB) (q : PySem.W.excIn X.K C bmB newId = true) (gC : X.mg x = some (.ref C)) (kC : PySem.W.keepIn X.K (.ref C) = true) (r : Raises X (.ref C)) (hg : Gl X x)
    (hdb : (x == ("__debug__" : Str)) = false := by decide) : PMk X (.Call (.Name x p) [] [] pos) (fun _ H Q => Q (.ref C) none H) := by
  intro pins s σ H Q I h
  refine wpAny_Call_Name_kw (ld_glob I hg gC ?_ hdb)
  refine PySem.W.callWith_K0 I.kIn kC ?_
  obtain ⟨bm, N, nm, qn, bs, hdct, sn, sub, ab, col, dd, k0, k1, k2, k3, k5, mN, hC, hN, hni, T⟩ := exc_obj I.kIn q
  refine wpAny_call_exc_subT F T hC hN hni (fun h' e hm => mk_of I hm r h (I.hok.gone hm.new)) ?_
  show (0 : Nat) ≤ sizeLine
  exact Nat.zero_le _
end
/-- what is known of such a class -/
structure ExP (K : PySem.W.Frag) (mg : Str → Option Value) (x : Str) (C : Addr) : Prop where
  g : mg x = some (.ref C)
  e : PySem.W.excIn K C [.type "ValueError", .type "Exception", .type "BaseException", .type "object"] "ValueError.__new__" = true
  k : PySem.W.keepIn K (.ref C) = true
  b : PySem.W.subIn K (.ref C) (.type "BaseException") = some true
  t : PySem.W.typeIn K (.ref C) = some (.type "type")
section
variable {X : Cx} {C : Addr} {W : WX} {x : Str} {p pos pos2 : Pos}
/-- raise C() -/
theorem ps_raise0 (h : ExP X.K X.mg x C) (hc : X.calm = true) (tk : Takes X W) (hg : Gl X x) (hdb : (x == ("__debug__" : Str)) = false := by decide) : PS X (.Raise (some (.Call (.Name x p) [] [] pos)) none pos2) (fun _ σ H => W (.ref C) none σ H) :=
  ps_raise hc tk (pmk_none PySem.F.excBase_ValueError h.e h.g h.k (raises_own h.b h.t) hg hdb)
end
section
variable (P : Program) (w : World) (K : PySem.W.Frag) (mg : Str → Option Value) (base : Heap)
structure DefOkX (k : Nat) (x : Str) (ps : List Str) (sp : Sp) : Prop where
  ex : ∃ f fd, mg x = some (.ref f) ∧ PySem.W.keepIn K (.ref f) = true ∧ Binds K fd ps [] ∧ FnOk P w K mg base (L2.CX P w) k f fd ps sp
structure BinOkX (C : Addr) (k : Nat) (op : Operator) (sp : Sp) : Prop where
  ex : ∃ g fd ps, PySem.W.selfFirst K C = true ∧ PySem.W.findIn K (.ref C) (PySem.dunder op.info.2) = some (some (.ref g)) ∧ PySem.W.isFn K (.ref g) = true ∧ Binds K fd ps [] ∧ FnOk P w K mg base (L2.CX P w) k g fd ps sp
end
section
variable {X : Cx} {k : Nat} {C : Addr} {ps : List Str} {sp : Sp} {x : Str} {p pos : Pos} {e : Expr} {es : List Expr} {t : TA} {W : WX} {op : Operator}
theorem pe_callX (tk : Takes X W) (h : DefOkX X.prog X.w X.K X.mg X.base k x ps sp) (hr : Room k X.A) (ha : PA X (e :: es) t) (hg : Gl X x := by rfl) (hdb : (x == ("__debug__" : Str)) = false := by decide)
    (he : starEach (e :: es) X.env = (false, eval e X.env) :: starEach es X.env := by rfl) (hpl : (backTo pos (starEach es X.env)).any (·.1) = false := by rfl) : PE X (.Call (.Name x p) (e :: es) [] pos) (tCallS sp (WE W) t) := by
  obtain ⟨f, fd, hm, hk, hb, F⟩ := h.ex
  exact pe_callS F hr hg hm hk hb (fun σ => passAt tk σ) ha hdb he hpl
/-- what a def lets out goes on as it is -/
theorem pass_on {E : XK} (tk : Takes X (fun cls d _ H => E cls d H)) : Passes (L2.CX X.prog X.w) X E := fun _ σ _ _ er s' I c => tk er s' (XE.of_call I (fun _ _ _ h => h) c)
theorem op_binX {E : XK} (tk : Takes X (fun cls d _ H => E cls d H)) (h : BinOkX X.prog X.w X.K X.mg X.base C k op sp) (hr : Room k X.A) : OpR X (binaryOp op) (rBinOwn C sp E) := by
  obtain ⟨g, fd, ps, hc, hs, hf, hb, F⟩ := h.ex
  exact op_binOwn hc hs hf F hr hb (pass_on tk)
end
section
variable {K : PySem.W.Frag} {C : Addr} {G H : Hp} {ta tb : TE} {σ : L2.St} {w u : FilS} {E : XK} {x : XOut FilS} {R : List (D FilS) → D FilS ⊕ XOut FilS → Prop} {Q : VK}
/-- f op g raises -/
theorem x_binF (h1 : EvD K (FilO K C) ta σ G (.obj w)) (h2 : EvD K (FilO K C) tb σ G (.obj u)) (r : R [.obj w, .obj u] (.inr x)) (e : Ex G H) (k : ExcG K (FilO K C) x G H E) : tOp (rBinOwn C (SpE K (FilO K C) R) E) ta tb σ H Q :=
  h1 H e _ fun v G2 H2 l a => h2 H2 (e.trans l.h) _ fun y G3 H3 l3 b => by
    obtain ⟨p, rfl, dx, tp, o, ts, kd, g1, g2⟩ := at_obj.mp a
    obtain ⟨q, rfl, dy, tp', o', ts', kd', f1, f2⟩ := at_obj.mp b
    have e2 : Ex G2 H3 := l.e.trans l3.h
    have e3 : Ex G2 (hun G3 G2) := hun_r l3.e e2
    refine ⟨p, dx, _, q, dy, _, rfl, rfl, e2 _ _ g1, l3.e _ _ f1, hun G3 G2, [.obj w, .obj u], .inr x, hun_ex l3.e e2, atL_cons.mpr ⟨_, _, rfl, a.mono e3, AtL.one (b.mono hun_l)⟩, r, ?_⟩
    refine k.mono ⟨l.h.trans l3.h, l.g.trans e3, hun_ex l3.e e2, fun y hg hh => ?_, hun_t l3.t l.t⟩
    have n2 := l.f y hg hh
    have h2' : H2 y ≠ none := fun z => hh (fresh_back l.h z)
    unfold hun
    rw [l3.f y hg h2']
    exact n2
end
end SR
set_option maxRecDepth 100000
set_option maxHeartbeats 4000000
/-! Errors that keep what they are handed in a field. -/
namespace SR
open PySem PySem.Spec PyProof.Rows L2 Evl
/-- __init__(self, y): self.f = y -/
def spXI (C : Addr) (f : Str) : Sp := fun vs H Q _ => ∃ (a : Addr) (y : V), vs = [.ref a, y] ∧ H a = some (exo a C none) ∧ ∀ dx, H dx = none → dx ≠ a → Q .non (upd (upd H dx (exd dx [(f, y)])) a (exo a C (some dx)))
section
variable {K : PySem.W.Frag} {ω : Type} {O : OI ω} {G H : Hp} {C : Addr} {f : Str} {ta : TA} {σ : L2.St} {d : D ω} {E : XK}
/-- self.f = y, there -/
theorem run_xi {De : Ends} {a : Addr} {y : V} (T : OexC K C) (hno : PySem.W.findIn K (.ref C) f = some none) (ha : H a = some (exo a C none)) (h0 : σ[0]? = some (some (.ref a))) (h1 : σ[1]? = some (some y)) (k : ∀ dx, H dx = none → dx ≠ a → De.nx σ (upd (upd H dx (exd dx [(f, y)])) a (exo a C (some dx)))) :
    tOst K f (tVar 0) (tVar 1) De σ H := ⟨y, h1, .ref a, h0, a, C, rfl, T, hno, Or.inl ⟨ha, k⟩⟩
/-- C(d) is raised -/
theorem x_made (h : EvDA K O ta σ G [d]) (e : Ex G H) (k : ExcG K O (C, some (f, d)) G H E) : tMkO C (spXI C f) [] ta σ H E :=
  h H e _ fun vs G2 H2 l as => by
    obtain ⟨v, r, rfl, av, n⟩ := atL_cons.mp as
    obtain rfl := atL_nil.mp n
    refine ⟨by show 1 ≤ 1000; decide, fun a ha => ⟨a, v, rfl, upd_same, fun dx hdx hne => ⟨rfl, dx, [(f, v)], upd_same, by rw [upd_ne hne, upd_same], ?_, ?_⟩⟩⟩
    · rw [upd_ne hne] at hdx
      exact hdx
    · rw [upd_ne hne] at hdx
      have eH : upd (del (upd (upd (upd H2 a (exo a C none)) dx (exd dx [(f, v)])) a (exo a C (some dx))) a) dx (.xd [(f, v)]) = upd H2 dx (.xd [(f, v)]) := by
        funext b
        by_cases hb : b = dx
        · rw [hb, upd_same, upd_same]
        · rw [upd_ne hb, upd_ne hb]
          by_cases hba : b = a
          · rw [hba, del_same, ha]
          · rw [del_ne hba, upd_ne hba, upd_ne hb, upd_ne hba]
      rw [eH]
      have lN : Le G2 H2 (upd G2 dx (.xd [(f, v)])) (upd H2 dx (.xd [(f, v)])) := Le.new l.e hdx
      exact k dx v _ _ (l.trans lN) (l.back hdx) upd_same (av.mono lN.g)
end
/-- what is known of such a class -/
structure XcP (P : Program) (w : World) (K : PySem.W.Frag) (mg : Str → Option Value) (base : Heap) (x f : Str) (C : Addr) : Prop where
  T : OexC K C
  g : mg x = some (.ref C)
  no : PySem.W.findIn K (.ref C) f = some none
  init : ∃ fI fd, PySem.W.findIn K (.ref C) "__init__" = some (some (.ref fI)) ∧ PySem.W.typeIn K (.ref fI) = some (.type "function") ∧ Binds K fd ["self", f] [] ∧ FnOk P w K mg base CX0 1 fI fd ["self", f] (spXI C f)
section
variable {X : Cx} {x f : Str} {C : Addr} {W : WX} {e : Expr} {es : List Expr} {ta : TA} {p pos pos2 : Pos}
/-- raise C(d) -/
theorem ps_raiseXc (h : XcP X.prog X.w X.K X.mg X.base x f C) (hc : X.calm = true) (tk : Takes X W) (hr : Room 2 X.A) (ha : PA X (e :: es) ta) (hg : Gl X x := by rfl) (hdb : (x == ("__debug__" : Str)) = false := by decide)
    (he : starEach (e :: es) X.env = (false, eval e X.env) :: starEach es X.env := by rfl) (hpl : (backTo pos (starEach es X.env)).any (·.1) = false := by rfl) :
    PS X (.Raise (some (.Call (.Name x p) (e :: es) [] pos)) none pos2) (fun _ σ H => tMkO C (spXI C f) [] ta σ H fun cls d H' => W cls d σ H') := by
  obtain ⟨fI, fd, h1, h2, hb, F⟩ := h.init
  exact ps_raise hc tk (pmk_oex h.T h1 h2 F hr hb .nil pass0 hg h.g ha hdb he hpl)
end
end SR
set_option maxRecDepth 100000
set_option maxHeartbeats 4000000
/-! Errors as values: made by position, read, asked for their class. -/
namespace SR
open PySem PySem.Spec PyProof.Rows L2 Evl
section
variable {X : Cx}
/-- C(), a class without its own __init__, as a value -/
theorem pe_exc0 {C : Addr} {bmB : List Value} {B newId initId : String} {x : Str} {p pos : Pos} (F : ExcBaseFacts B newId initId bmB) (q : PySem.W.excIn X.K C bmB newId = true) (gC : X.mg x = some (.ref C)) (kC : PySem.W.keepIn X.K (.ref C) = true) (hg : Gl X x)
    (hdb : (x == ("__debug__" : Str)) = false := by decide) :
    PE X (.Call (.Name x p) [] [] pos) (fun σ H Q => ∀ a, H a = none → Q (.ref a) (upd H a (exo a C none))) := by
  refine ⟨fun pins s σ H Q I h => ?_⟩
  refine wpAny_Call_Name_kw (ld_glob I hg gC ?_ hdb)
  refine PySem.W.callWith_K0 I.kIn kC ?_
  obtain ⟨bm, N, nm, qn, bs, hdct, sn, sub, ab, col, dd, k0, k1, k2, k3, k5, mN, hC, hN, hni, T⟩ := exc_obj I.kIn q
  refine wpAny_call_exc_subT F T hC hN hni (fun h' a hm => ?_) ?_
  · have hn : H a = none := I.hok.gone hm.new
    obtain ⟨t, ht, _, _⟩ := hm.there
    exact ⟨.ref a, upd H a (exo a C none), I.laidN hm.keeps hm.new hn (exo_ok ht), rfl, h a hn⟩
  · show (0 : Nat) ≤ sizeLine
    exact Nat.zero_le _
/-- C(e, ..), C's own __init__ keeping sp, as a value -/
def tMkV (C : Addr) (sp : Sp) (dvs : List V) (ta : TA) : TE := fun σ H Q => ta σ H fun vs H1 => vs.length ≤ 1000 ∧ ∀ a, H1 a = none → sp (.ref a :: (vs ++ dvs)) (upd H1 a (exo a C none))
  (fun v H2 => v = .non ∧ Q (.ref a) H2) (fun _ _ _ => False)
theorem pe_oexV {CX : CXT} {x : Str} {C fI : Addr} {k : Nat} {fd : FuncData} {ps : List Str} {sp : Sp} {ds : List Value} {dvs : List V} {e : Expr} {es : List Expr} {ta : TA} {p pos : Pos} (T : OexC X.K C) (iC : PySem.W.findIn X.K (.ref C) "__init__" = some (some (.ref fI))) (tI : PySem.W.typeIn X.K (.ref fI) = some (.type "function"))
    (F1 : FnOk X.prog X.w X.K X.mg X.base CX k fI fd ps sp) (hr : Room (k + 1) X.A) (hb : Binds X.K fd ps ds) (hd : Vals dvs ds) (hx : Passes CX X (fun _ _ _ => False)) (hg : Gl X x) (hm : X.mg x = some (.ref C)) (ha : PA X (e :: es) ta)
    (hdb : (x == ("__debug__" : Str)) = false := by decide) (he : starEach (e :: es) X.env = (false, eval e X.env) :: starEach es X.env := by rfl) (hpl : (backTo pos (starEach es X.env)).any (·.1) = false := by rfl) :
    PE X (.Call (.Name x p) (e :: es) [] pos) (tMkV C sp dvs ta) := by
  refine ⟨fun pins s σ H Q I h => ?_⟩
  obtain ⟨nm, q, N, bs, bm, sn, sub, ab, col, dd, k0, k1, k2, k3, k5, hC, hbm⟩ := T.cls
  refine wpAny_Call_Name_kw (ld_glob I hg hm ?_ hdb)
  refine PySem.W.callWith_K (h₀ := X.base) I.ok.mod.kin T.kC (thn (ha.run pos pins s σ H _ I h) fun us s1 ⟨vs, H1, I1, r1, hz, q1⟩ => ⟨I1.kIn, ?_⟩) he hpl
  show wpAny _ _ (call (.ref C) us) _ _ _
  obtain ⟨hp, g, dr, tk, os⟩ := s1
  have hsz : hp.objs.size ≤ hp.objs.size + 1 := Nat.le_succ _
  have hn : H1 (hp.objs.size + 1) = none := I1.hok.fresh hsz
  have hq := q1 (hp.objs.size + 1) hn
  have kk : ∀ b o, hp.get? b = some o → ((hp.push (PySem.W.kdv_tup us)).push (PySem.HandSPX.excO C hp.objs.size)).get? b = some o := fun b o e => Heap.get?_push_of_some _ (Heap.get?_push_of_some _ e)
  have hget : ((hp.push (PySem.W.kdv_tup us)).push (PySem.HandSPX.excO C hp.objs.size)).get? (hp.objs.size + 1) = some (PySem.HandSPX.excO C hp.objs.size) := by heap_get
  have I2 : Inv X pins σ (upd H1 (hp.objs.size + 1) (exo (hp.objs.size + 1) C none)) ⟨(hp.push (PySem.W.kdv_tup us)).push (PySem.HandSPX.excO C hp.objs.size), g, dr, tk, os⟩ :=
    I1.laid (t' := tk) (a := hp.objs.size + 1) (o := exo (hp.objs.size + 1) C none) (h' := (hp.push (PySem.W.kdv_tup us)).push (PySem.HandSPX.excO C hp.objs.size)) kk hsz (exo_ok hget)
  have r2 : Vals (V.ref (hp.objs.size + 1) :: (vs ++ dvs)) (Value.ref (hp.objs.size + 1) :: (us ++ ds)) := .cons rfl (r1.append hd)
  have hl : (Value.ref (hp.objs.size + 1) :: us ++ ds).length = ps.length := by
    have e := r2.length
    rw [F1.len _ _ _ _ hq] at e
    exact e.symm
  have hus : us.length ≤ sizeLine := by
    rw [← Paired.length r1, sizeLine_eq]
    omega
  refine wpAny_call (PySem.HandSPX.call_own F.excBase_ValueError (fun Y => PySem.HandSPX.refsVE_contains Y bm hbm) (I1.kIn _ _ hC) (PySem.W.looks_findIn I1.kIn iC) (fun self => PySem.W.bind_fn I1.kIn self tI) hus
    (codeAny_mono (F1.run _ X.stack _ _ ⟨Value.ref (hp.objs.size + 1) :: us, []⟩ (Value.ref (hp.objs.size + 1) :: (us ++ ds)) _ _ (fun _ _ _ => False) (hr.make C us []) (I2.env0.make C us []) (hb _ (Value.ref (hp.objs.size + 1) :: us) I2.kIn hl) r2 hq) fun r s' hq' => ?_))
  cases r with
  | error er => exact hx pins σ _ _ er s' I2 hq'
  | ok fl =>
    cases fl with
    | ret u =>
      obtain ⟨v, H2, os2, bare2, un2, hok2, rv, ev, q2⟩ := hq'
      subst ev
      obtain ⟨h2, g2, d2, t2, os'⟩ := s'
      exact ⟨rv, .ref (hp.objs.size + 1), H2, I2.call' (ch := []) os2 un2 hok2 bare2 (fun b z => absurd z (by simp)), rfl, q2⟩
    | next => exact False.elim hq'
    | brk => exact False.elim hq'
    | cont => exact False.elim hq'
/-- e.f of an error -/
def tExf (K : PySem.W.Frag) (f : Str) (te : TE) : TE := fun σ H Q => te σ H fun x H1 => ∃ (a C dd : Addr) (fs : List (Str × V)) (v : V), x = .ref a ∧ XfC K C ∧ PySem.W.findIn K (.ref C) f = some none ∧ H1 a = some (exo a C (some dd)) ∧ H1 dd = some (exd dd fs) ∧ fs.lookup f = some v ∧ Q v H1
theorem pe_exf {e : Expr} {te : TE} {pos : Pos} {n : Str} (he : PE X e te) (hb : attributeBase e n X.env (eval e X.env) = eval e X.env := by rfl) : PE X (.Attribute e n pos) (tExf X.K n te) := by
  refine ⟨fun pins s σ H Q I h => ?_⟩
  refine attr_of hb (thn (he.run pins s σ H _ I h) fun u s1 hh => ?_)
  obtain ⟨x, H1, I1, rx, a, C, dd, fs, v, ex, T, hno, ea, ed, l, q⟩ := hh
  subst ex
  obtain rfl : u = Value.ref a := rx
  obtain ⟨t1, ho⟩ := exo_at I1.hok ea
  obtain ⟨mA, hns, hr⟩ := exd_at I1.hok ed
  obtain ⟨od, hod, hl⟩ := lookIn_ns hns
  obtain ⟨u, hu, ru⟩ := RelO.some_of (v := v) (o := mA n) (by rw [← l]; exact hr n)
  have J : PySem.W.InstAt s1.heap a { cls := .ref C, dict := some dd, data := .fields #[.ref t1, .none, .none, .none, .bool false, .none] } C (some od) := ⟨ho, rfl, rfl, hod⟩
  exact HandSPX.exc_get I1.kIn J T.ga T.gg T.exC (PySem.W.findObj_own T.hdC hno rfl (by rw [hl, hu])) (handed_of ru) ⟨v, H1, I1.tok _, ru, q⟩
end
end SR
set_option maxRecDepth 100000
set_option maxHeartbeats 4000000
/-! Errors made by names. -/
namespace PySem
namespace HandSPX
open Builtin Builtin.ObjectAttr
section
variable {M : Model} {A : Around} {E : Value → Shared → Prop} {h : Heap} {g : Array GenState} {d : Drawn} {t : Nat} {os : OsState}
variable {nm q : Str} {C N : Addr} {bs bm bmB : List Value} {hdct : Bool} {sn : List Str} {sub : List Value} {ab : Bool} {col : Option Bool} {dd : Option Addr} {k0 k1 k2 k3 k5 : Option Value} {B newId initId : String} {kws : List (Str × Value)}
theorem check_new_ownK (F : ExcBaseFacts B newId initId bmB) (hT : ∀ X : String, bm.contains (.type X) = bmB.contains (.type X)) {rest : List Value} {Q : Unit → Shared → Prop}
    (hC : h.get? C = some (excClassObj nm q C N bs bm hdct sn sub ab col dd k0 k1 k2 k3 k5 newId)) (hq : Q () ⟨h, g, d, t, os⟩) : wpAny M A (checkBuiltinCall newId ⟨.ref C :: rest, kws⟩) Q E ⟨h, g, d, t, os⟩ := by
  have hcont : (Value.ref C :: bm).contains (.type B) = true := by rw [List.contains_cons, hT, F.hasB, Bool.or_true]
  have hstar := F.noStar
  simp only [checkBuiltinCall, F.newKind, F.newSplit, F.newRow]
  repeat (first | refine wpAny_loadPart_at hC ?_ | (refine wpAny_isSubtype_exc hC ?_; rw [hcont]) | refine wpAny_staticBase_exc hC ?_ | refine wpAny_madeBy_exc hC ?_ | simp only [bne_self_eq_false, Bool.false_eq_true, if_false] | wp_step)
  all_goals exact hq
end
section
variable {prog : Program} {w : World} {A : Around} {E : Value → Shared → Prop} {R : Result → Shared → Prop} {h : Heap} {g : Array GenState} {d : Drawn} {t : Nat} {os : OsState}
variable {nm q : Str} {C N : Addr} {bs bm bmB : List Value} {hdct : Bool} {sn : List Str} {sub : List Value} {ab : Bool} {col : Option Bool} {dd : Option Addr} {k0 k1 k2 k3 k5 : Option Value} {B newId initId : String} {kws : List (Str × Value)}
theorem new_ownK (F : ExcBaseFacts B newId initId bmB) (hT : ∀ X : String, bm.contains (.type X) = bmB.contains (.type X)) {rest : List Value}
    (hC : h.get? C = some (excClassObj nm q C N bs bm hdct sn sub ab col dd k0 k1 k2 k3 k5 newId))
    (hq : R (.ok (.ret (.ref (h.objs.size + 1)))) ⟨(h.push { cls := .type "tuple", data := .seq rest.toArray }).push
      { cls := .ref C, data := .fields #[.ref h.objs.size, .none, .none, .none, .bool false, .none] }, g, d, t, os⟩) (hrest : rest.length ≤ sizeLine) :
    codeAny (model prog w) A (.builtin newId ⟨.ref C :: rest, kws⟩) R ⟨h, g, d, t, os⟩ := by
  have hends := F.ends
  have hcB : (Value.ref C :: bm).contains (.type B) = true := by rw [List.contains_cons, hT, F.hasB, Bool.or_true]
  have hcA : (Value.ref C :: bm).contains (.type "AttributeError") = false := by rw [List.contains_cons, hT, F.noAttr]; rfl
  have hcN : (Value.ref C :: bm).contains (.type "NameError") = false := by rw [List.contains_cons, hT, F.noName]; rfl
  refine codeAny_builtinAt F.entry ?_
  unfold Builtin.«BaseException.__new__»
  refine wpAt_bind ?_
  show wpAt _ _ _ (stack >>= _) _ _ _
  refine wpAt_bind (wpAt_stack fun p below => wpAt_of_wpAny ?_)
  wp_walk
  refine wpAt_of_wpAny ?_
  rw [F.owner]
  repeat (first | with_reducible refine wpAny_madeHere_exc F.canon hC ?_ | with_reducible refine wpAny_loadPart_at hC ?_ | (with_reducible refine wpAny_isSubtype_exc hC ?_; first | rw [hcB] | rw [hcA] | rw [hcN]) | wp_step)
  show R _ _
  rw [Heap.size_push]
  exact hq
theorem type_call_ownK (F : ExcBaseFacts B newId initId bmB) (hT : ∀ X : String, bm.contains (.type X) = bmB.contains (.type X)) {rest : List Value} {fI : Addr} {Q : Fin → Shared → Prop}
    (hC : h.get? C = some (excClassObj nm q C N bs bm hdct sn sub ab col dd k0 k1 k2 k3 k5 newId))
    (hi : W.Looks (model prog w) h (typeLookup (.ref C) "__init__") (some (.ref fI))) (hb : ∀ self, W.Looks (model prog w) h (bindSpecial (.ref fI) self) (.ref fI, [self])) (hrest : rest.length ≤ sizeLine)
    (hq : codeAny (model prog w) A (.call (.ref fI) ⟨.ref (h.objs.size + 1) :: rest, kws⟩)
      (fun r s' => match r with | .ok (.ret v) => v = .none ∧ Q (.done (.ret (.ref (h.objs.size + 1)))) s' | .ok _ => False | .error e => E e s')
      ⟨(h.push (W.kdv_tup rest)).push (excO C h.objs.size), g, d, t, os⟩) :
    wpAny (model prog w) A (Builtin.«type.__call__» ⟨.ref C :: rest, kws⟩) Q E ⟨h, g, d, t, os⟩ := by
  repeat (first | with_reducible refine wpAny_loadPart_at hC ?_ | with_reducible refine wpAny_madeBy_exc hC ?_ | wp_step)
  refine codeAny_call_builtin_code (Code.quiet_builtin _ F.quiet) (check_new_ownK F hT hC ?_)
  refine new_ownK F hT hC ?_ hrest
  show wpAny _ _ _ _ _ _
  have k : ∀ b o, h.get? b = some o → ((h.push (W.kdv_tup rest)).push (excO C h.objs.size)).get? b = some o := fun b o e => Heap.get?_push_of_some _ (Heap.get?_push_of_some _ e)
  have hC₁ := k _ _ hC
  have hget : ((h.push (W.kdv_tup rest)).push (excO C h.objs.size)).get? (h.objs.size + 1) = some (excO C h.objs.size) := by heap_get
  have hcC : (Value.ref C :: bm).contains (.ref C) = true := by simp
  have i1 := hi.keeps k
  have b1 := (hb (.ref (h.objs.size + 1))).keeps k
  unfold isInstance
  repeat (first | with_reducible refine wpAny_loadPart_at hget ?_ | (with_reducible refine wpAny_isSubtype_exc hC₁ ?_; rw [hcC]) | wp_step)
  show wpAny _ _ (typeLookup (.ref C) _) _ _ _
  refine i1.at ?_
  refine wpAny_holding (wpAny_bind (b1.at ?_))
  refine wpAny_bind (wpAny_call (codeAny_mono hq fun r s' z => ?_))
  rcases r with e | (v | _ | _ | _) <;> first | exact z | exact z.elim | skip
  obtain ⟨rfl, z⟩ := z
  first
    | exact wpAny_pure (wpAny_pure z)
    | (wp_walk; exact z)
theorem check_type_callK {M : Model} {rest : List Value} {Q : Unit → Shared → Prop} (hC : h.get? C = some (excClassObj nm q C N bs bm hdct sn sub ab col dd k0 k1 k2 k3 k5 newId))
    (hq : Q () ⟨h, g, d, t, os⟩) : wpAny M A (checkBuiltinCall "type.__call__" ⟨.ref C :: rest, kws⟩) Q E ⟨h, g, d, t, os⟩ := by
  have f3 := tc_sub
  have hT : (⟨h, g, d, t, os⟩ : Shared).TypeIs (.ref C) "type" := ⟨_, hC, rfl⟩
  simp only [checkBuiltinCall, tc_kind, tc_split]
  repeat (any_goals (first | assumption | with_reducible refine wpAny_loadPart_at hC ?_ | with_reducible refine wpAny_onRaise ?_ | with_reducible refine wpAny_map ?_ | wp_step))
theorem call_ownK (F : ExcBaseFacts B newId initId bmB) (hT : ∀ X : String, bm.contains (.type X) = bmB.contains (.type X)) {rest : List Value} {fI : Addr}
    (hC : h.get? C = some (excClassObj nm q C N bs bm hdct sn sub ab col dd k0 k1 k2 k3 k5 newId))
    (hi : W.Looks (model prog w) h (typeLookup (.ref C) "__init__") (some (.ref fI))) (hb : ∀ self, W.Looks (model prog w) h (bindSpecial (.ref fI) self) (.ref fI, [self])) (hrest : rest.length ≤ sizeLine)
    (hq : codeAny (model prog w) (A.under (.builtin "type.__call__" ⟨.ref C :: rest, kws⟩)) (.call (.ref fI) ⟨.ref (h.objs.size + 1) :: rest, kws⟩) (W.InitBack (h.objs.size + 1) R)
      ⟨(h.push (W.kdv_tup rest)).push (excO C h.objs.size), g, d, t, os⟩) :
    codeAny (model prog w) A (.call (.ref C) ⟨rest, kws⟩) R ⟨h, g, d, t, os⟩ := by
  have f1 := tc_lookup
  have f2 := tc_bind (.ref C)
  have hTy : (⟨h, g, d, t, os⟩ : Shared).TypeIs (.ref C) "type" := ⟨_, hC, rfl⟩
  refine codeAny_of_tree ?_
  show wpAny _ _ (callAny (.ref C) _) _ _ _
  repeat (any_goals (first | assumption | with_reducible refine wpAny_loadPart_at hC ?_ | wp_step))
  refine ⟨rfl, ?_⟩
  refine codeAny_call_builtin_at (Code.quiet_builtin _ (by decide +kernel)) entry_typeCall (check_type_callK hC (type_call_ownK F hT hC hi hb hrest ?_))
  refine codeAny_mono hq fun r s' z => ?_
  rcases r with e | (v | _ | _ | _) <;> exact z
end
end HandSPX
end PySem
set_option maxRecDepth 100000
set_option maxHeartbeats 4000000
/-! A law whose own body asks repr: nothing is being shown when it is called. (The rules of a def and of a law's end once more, with that known.) -/
namespace SR
open PySem PySem.Spec PyProof.Rows L2 Evl
structure FnG (P : Program) (w : World) (K : PySem.W.Frag) (mg : Str → Option Value) (base : Heap) (CX : CXT) (k : Nat) (f : Addr) (fd : FuncData) (ps : List Str) (sp : Sp) : Prop where
  len : ∀ vs H Q E, sp vs H Q E → vs.length = ps.length
  run : ∀ (A : Around), A.guards = some [] → ∀ (outer : List Env) (s : Shared) (H : Hp) (args : Args) (us : List Value) (vs : List V) (Q : VK) (E : XK), Room k A → Env0 P w K mg base A outer s H → BindsTo s fd args (ps.zip us) → Vals vs us → sp vs H Q E →
    codeAny (model P w) A (.call (.ref f) args) (CR CX outer P w H s Q E) s
theorem fn_ofG {CX : CXT} {P : Program} {w : World} {K : PySem.W.Frag} {mg : Str → Option Value} {base : Heap} {k : Nat} {f : Addr} {name qual : Str} {params : Arguments} {body : List Stmt} {scope : Scope} {dV kV doc pm cdv ct oc : Value} {an od : Option Addr}
    {osl : Array (Option Value)} {N ps : List Str} {sp : Sp} (lk : K.lookup f = some ⟨oc, od, .func (PySem.W.fnOf name qual params body scope dV kV doc pm an cdv ct), osl⟩) (hcd : PySem.W.codeIn K cdv qual = true) (S : FnScope N ps scope)
    (len : ∀ vs H Q E, sp vs H Q E → vs.length = ps.length)
    (hbody : ∀ (A : Around), A.guards = some [] → ∀ (outer : List Env) (s : Shared) (H : Hp) (vs : List V) (Q : VK) (E : XK), Room k (A.deeper (envOfC qual scope s.heap.objs.size f cdv)) → sp vs H Q E →
      ∃ t, PSs (cxOf CX P w K mg base N qual scope f cdv A outer s H E) body t ∧ t { nx := fun _ H' => Q .non H', rt := Q } (start N vs) H) :
    FnG P w K mg base CX (k + 1) f (PySem.W.fnOf name qual params body scope dV kV doc pm an cdv ct) ps sp := by
  refine ⟨len, fun A hg outer s H args us vs Q E hr e0 hb r hsp => ?_⟩
  have hl := len _ _ _ _ hsp
  have KX : K.In s.heap := e0.mod.kin.keeps fun b o e => (e0.bs b o e).1
  have lim : s.heap.NoLimit := e0.mod.nolimit.keeps fun b o e => (e0.bs b o e).1
  have hkind : ∀ y ∈ ps.zip us, scope.names.lookup y.1 = some .local ∨ (scope.names.lookup y.1 = some .cell ∧ ((cellsFrom (s.heap.objs.size + 1) scope.names []).lookup y.1).isSome = true) := fun ⟨n, v⟩ hy => by
    rcases S.par n (List.of_mem_zip hy).1 with q | q
    · exact .inl q
    · exact .inr ⟨q, PySem.W.cellsFrom_some _ _ _ (.inl q)⟩
  refine codeAny_call_function hr.depth (KX _ _ lk) rfl S.co S.gen rfl (PySem.W.codeRec_of KX hcd) (hb _ _ _ _ ?_)
  refine wpAny_newFunctionEnv_cells S.kind hkind fun env he s1 x => ?_
  subst he
  refine ⟨lim.keeps x.toInCall.keep, codeAny_func ?_⟩
  obtain ⟨t, ht, hq⟩ := hbody A hg outer s H vs Q E (hr.deeper _) hsp
  have I : Inv (cxOf CX P w K mg base N qual scope f cdv A outer s H E) [] (start N vs) H s1 := inv_start S hr.hd e0 hl r x
  refine wpAny_mono (ht.run [] s1 (start N vs) H _ I hq) (fun fl s' hs => ?_) fun e s' hs => hs
  have fin : ∀ {σ' : L2.St} {H' : Hp} {v : V} {u : Value}, Inv (cxOf CX P w K mg base N qual scope f cdv A outer s H E) [] σ' H' s' → RelV v u → Q v H' → CE outer P w H s Q u s' :=
    fun {σ' H' v u} J rv q => ⟨v, H', J.os, J.bare, J.base, J.hok, rv, q⟩
  cases fl with
  | ret u =>
    obtain ⟨v, σ', H', J, rv, q⟩ := hs
    exact fin J rv q
  | next =>
    obtain ⟨σ', H', J, q⟩ := hs
    exact fin (v := V.non) (u := Value.none) J rfl q
  | brk =>
    obtain ⟨_, _, _, q⟩ := hs
    exact False.elim q
  | cont =>
    obtain ⟨_, _, _, q⟩ := hs
    exact False.elim q

/-- a def by its body -/
theorem Fun.okG {P : Program} {w : World} {K : PySem.W.Frag} {mg : Str → Option Value} {base : Heap} {x qual : Str} {st : Stmt} {f : Addr} {fd : FuncData} {N ps : List Str} {k : Nat} {sp : Sp} (F : Fun K x qual st f fd) (S : FnScope N ps (defScope st)) (len : ∀ vs H Q E, sp vs H Q E → vs.length = ps.length)
    (hbody : ∀ (cdv : Value) (A : Around), A.guards = some [] → ∀ (outer : List Env) (s : Shared) (H : Hp) (vs : List V) (Q : VK) (E : XK), Room k (A.deeper (envOfC qual (defScope st) s.heap.objs.size f cdv)) → sp vs H Q E →
      ∃ t, PSs (cxOf CX0 P w K mg base N qual (defScope st) f cdv A outer s H E).nox (defBody st) t ∧ t { nx := fun _ H' => Q .non H', rt := Q } (start N vs) H) : FnG P w K mg base CX0 (k + 1) f fd ps sp := by
  obtain ⟨oc, od, kV, doc, pm, an, cdv, ct, osl, rfl, lk, hcd⟩ := F.ex
  refine fn_ofG lk hcd S len fun A hg outer s H vs Q E hr hsp => ?_
  obtain ⟨t, h, q⟩ := hbody cdv A hg outer s H vs Q E hr hsp
  exact ⟨t, h.nox, q⟩
theorem law_callG {P : Program} {w : World} {K : PySem.W.Frag} {mg mb : Str → Option Value} {CX : CXT} {k : Nat} {fa a : Addr} {fd : FuncData} {x : Str} {sp : Sp} {s₁ : Shared} {vs : List Value} {ns : List Int}
    (KX : K.In s₁.heap) (hns : s₁.heap.Ns mainGlobals mg) (hb : s₁.heap.Ns builtinsNs mb) (hbb : ∀ x : Str, x ≠ "__name__" → mb x = bootBuiltins x) (hlim : s₁.heap.NoLimit) (hg : s₁.gens = #[])
    (ha : s₁.heap.get? a = some { cls := .type "list", data := .seq vs.toArray }) (hi : IntsAre vs ns) (hl : ns.length ≤ sizeLine) (hr : Room k callerA)
    (F : ∀ base : Heap, K.In base → base.Ns mainGlobals mg → FnG P w K mg base CX k fa fd [x] sp) (hbind : ∀ (s : Shared) (u : Value), BindsTo s fd ⟨[u], []⟩ [(x, u)])
    (hsp : ∀ H : Hp, Only H → SqL K H a (ns.map V.int) → sp [.ref a] H (fun v _ => v = .bl true) fun _ _ _ => False)
    (hCX : ∀ H e s', CX [] H s₁ (fun _ _ _ => False) e s' → False) :
    codeAny (model P w) callerA (.call (.ref fa) ⟨[.ref a], []⟩) (fun r s' => r = .ok (.ret (.bool true)) ∧ OldK s₁.heap s'.heap ∧ s'.os = s₁.os ∧ AllBare s'.gens) s₁ := by
  have rv := vals_ints hi
  have lenV := hi.length
  have core : ∀ H : Hp, Only H → SqL K H a (ns.map V.int) → HOk P w H s₁.heap → (∀ b, H b ≠ none → b = a) → (H a ≠ none → K.lookup a = none) →
      codeAny (model P w) callerA (.call (.ref fa) ⟨[.ref a], []⟩) (fun r s' => r = .ok (.ret (.bool true)) ∧ OldK s₁.heap s'.heap ∧ s'.os = s₁.os ∧ AllBare s'.gens) s₁ := by
    intro H hO hS hok hA hK
    have base_of : ∀ {b : Addr} {o : Obj}, s₁.heap.get? b = some o → H b = none → (hidT s₁.heap H).get? b = some o := fun e n => hidT_get e n
    have noA : ∀ {b : Addr} {o : Obj} {es : Array DictEntry} {ep : Nat}, s₁.heap.get? b = some o → o.data = .dict es ep → H b = none := fun {b o es ep} e d => by
      cases q : H b with
      | none => rfl
      | some u =>
        have e' : b = a := hA b (by rw [q]; simp)
        subst e'
        rw [ha] at e; cases e
        have d' : Data.seq vs.toArray _ = Data.dict es ep := d
        cases d'
    have nsK : ∀ {b : Addr} {m : Str → Option Value}, s₁.heap.Ns b m → (hidT s₁.heap H).Ns b m := fun {b m} ⟨o, es, ep, e, d, r⟩ => ⟨o, es, ep, base_of e (noA e d), d, r⟩
    have hKb : K.In (hidT s₁.heap H) := fun b o e => base_of (KX b o e) (by
      cases q : H b with
      | none => rfl
      | some u =>
        have e' : b = a := hA b (by rw [q]; simp)
        subst e'
        rw [hK (by rw [q]; simp)] at e; cases e)
    have hM : Mod K mg (hidT s₁.heap H) := ⟨hKb, nsK hns, ⟨mb, nsK hb, hbb⟩, let ⟨mc, h1, h2⟩ := hlim; ⟨mc, nsK h1, h2⟩⟩
    have e0 : Env0 P w K mg (hidT s₁.heap H) callerA [] s₁ H := ⟨rfl, hM, fun b o e => of_hidT e, Nat.le_of_eq (hidT_size _ _), trivial, fun b hb => absurd (show b ∈ ([] : List Addr) from hb) (by simp), hok, .of_eq hg⟩
    refine codeAny_mono ((F _ hKb (nsK hns)).run callerA rfl [] s₁ H ⟨[.ref a], []⟩ [.ref a] [.ref a] _ _ hr e0 (hbind s₁ (.ref a)) (.cons rfl .nil) (hsp H hO hS)) fun r s' h => ?_
    cases r with
    | error e => exact (hCX H e s' h).elim
    | ok fl =>
      cases fl with
      | next => exact False.elim h
      | brk => exact False.elim h
      | cont => exact False.elim h
      | ret u =>
        obtain ⟨v, H', os, bare, un, hok', r', q⟩ := h
        have q' : v = .bl true := q
        subst q'
        obtain rfl : u = Value.bool true := r'
        refine ⟨rfl, OldK.of_keep fun b o e => ?_, os, bare⟩
        cases q : H b with
        | none => exact un.keep b o e q (by intro z; exact absurd (show b ∈ ([] : List Addr) from z) (by simp)) (by simp)
        | some u =>
          rcases hO b with z | ⟨ob, xs, z⟩
          · rw [q] at z; cases z
          · have z2 := un.frzs b ob _ z
            obtain ⟨e1, _⟩ := hok b _ z
            obtain ⟨e2, _⟩ := hok' b _ z2
            rw [e] at e1; cases e1
            exact e2
  cases hk : K.lookup a with
  | some o =>
    have e := KX a o hk
    rw [ha] at e
    cases e
    refine core (fun _ => none) (fun _ => .inl rfl) (.inr ⟨_, vs.toArray, _, hk, rfl, rfl, rfl, by rw [List.size_toArray, lenV]; exact hl, by simpa using rv⟩) (fun b u z => by have z' : (none : Option HO) = some u := z; cases z') (fun b z => absurd rfl z) fun z => absurd rfl z
  | none =>
    refine core (fun b => if b = a then some (.frz { cls := .type "list", data := .seq vs.toArray } (.lst (ns.map V.int))) else none) (fun b => ?_) (.inl (.inr ⟨{ cls := .type "list", data := .seq vs.toArray }, if_pos rfl⟩)) (fun b u z => ?_) (fun b z => ?_) fun _ => hk
    · by_cases hb : b = a
      · exact .inr ⟨_, _, if_pos hb⟩
      · exact .inl (if_neg hb)
    · by_cases hb : b = a
      · have z' := (if_pos hb).symm.trans z
        cases z'
        subst hb
        exact ⟨ha, by rw [List.length_map]; exact hl, vs, _, rv, ha⟩
      · have z' := (if_neg hb).symm.trans z
        cases z'
    · by_cases hb : b = a
      · exact hb
      · exact absurd (if_neg hb) z
theorem walk_ofG {l : PySem.W.OpenLaw} {n k : Nat} {q : Program} {loose : List Str} {XP : (Str → Option Value) → Heap → Prop} {YP : World → Heap → Prop} {d : DefRec} {K : Params → PySem.W.Frag} {CX : World → CXT} {sp : World → Sp} {x : Str}
    (hn : l.most = some n) (hn2 : n ≤ sizeLine) (hdf : d.params.defaults = []) (hr : Room k callerA)
    (hY : ∀ (w : World) (h : Heap), YP w h → (K w.params).In h)
    (F : ∀ (w : World) (mg : Str → Option Value) (fa : Addr) (h : Heap), (K w.params).In h → h.Ns mainGlobals mg → mg d.name = some (.ref fa) →
      ∃ fd : FuncData, (∀ (s : Shared) (u : Value), BindsTo s fd ⟨[u], []⟩ [(x, u)]) ∧
        ∀ base : Heap, (K w.params).In base → base.Ns mainGlobals mg → FnG l.prog w (K w.params) mg base (CX w) k fa fd [x] (sp w))
    (hsp : ∀ (w : World) (H : Hp) (a : Addr) (ns : List Int), ns.length ≤ n → Only H → SqL (K w.params) H a (ns.map V.int) → sp w [.ref a] H (fun v _ => v = .bl true) fun _ _ _ => False)
    (hCX : ∀ (w : World) (H : Hp) (s : Shared) (e : Value) (s' : Shared), CX w [] H s (fun _ _ _ => False) e s' → False) :
    PySem.W.WalkO q loose XP YP l.row.toRowW d [] (fun f vs => PySem.call f vs) := by
  refine Att.attach_call hn hdf fun w s₀ s₁ mg mb fa o pm cd doc a vs ns G Y ho hd hcd hmg hobj hints hlen hg => ?_
  have KX := hY w _ Y
  obtain ⟨fd, hb, hF⟩ := F w mg fa _ KX G.T.g hmg
  exact law_callG KX G.T.g G.T.b G.T.builtins G.T.nolimit hg hobj hints (Nat.le_trans hlen hn2) hr hF hb (fun H hO hS => hsp w H a ns hlen hO hS) fun H e s' => hCX w H s₁ e s'
end SR
set_option maxRecDepth 100000
set_option maxHeartbeats 4000000
/-! repr of data; errors: by name, and of which classes they are. -/
namespace SR
open PySem PySem.Spec PyProof.Rows L2 Evl
/-! ### repr -/
def ShR (K : PySem.W.Frag) (H : Hp) (v : V) (d : PyData) : Prop := Dp K H v d ∨ ∃ a, v = .ref a ∧ H a = some (.dK []) ∧ d = .dict []
def rRepr (K : PySem.W.Frag) : List V → Hp → VK → Prop := fun xs H Q => ∃ v d, xs = [v] ∧ ShR K H v d ∧ d.showable = true ∧ (d.hasDict = true → d = .dict []) ∧ d.depth ≤ 100 ∧ d.shown.length ≤ sizeLine ∧ Q (.str d.shown) H
section
variable {X : Cx}
theorem call_repr (K : PySem.W.Frag) (hK : X.K = K) (hg : X.A.guards = some []) (hr : Room 1 X.A) : CallR X (.builtin "repr") (rRepr K) := by
  subst hK
  intro pins s σ H xs us Q I r h
  obtain ⟨v, d, rfl, hs, sh, hd, hdp, hz, q⟩ := h
  obtain ⟨u, rfl, ru⟩ : ∃ u, us = [u] ∧ RelV v u := by
    cases r with
    | cons r1 r2 => cases r2; exact ⟨_, rfl, r1⟩
  have hu : X.A.units + (d.depth + 1) < cLine := by
    have := hr.un
    omega
  have fin : ∀ h' u tk, (∀ b o, s.heap.get? b = some o → h'.get? b = some o) → EP X pins σ Q (.str d.shown u) { s with heap := h', toks := tk } := fun h' u tk k =>
    ⟨.str d.shown, H, I.turnedL (ch := []) (fun b o _ e => k b o e) (fun b hb => absurd hb (by simp)), ⟨_, rfl⟩, q⟩
  have tokn : ∀ u, EP X pins σ Q (.str d.shown u) { s with toks := s.toks + 1 } := fun u => ⟨.str d.shown, H, I.tok _, ⟨_, rfl⟩, q⟩
  rcases hs with hs | ⟨a, rfl, ha, rfl⟩
  · obtain ⟨as, rd⟩ := Dp.reads I d v u hs ru
    have hnd : d.hasDict = false := by
      cases hb : d.hasDict with
      | false => rfl
      | true =>
        have e := hd hb
        subst e
        cases hs
    cases rd with
    | none => exact PySem.P.repr_of_none (tokn _)
    | bool b => exact PySem.P.repr_of_bool (by simpa [PyData.shown] using tokn _)
    | int i t => exact PySem.P.repr_of_int (by simpa [PyData.showable] using sh) (by simpa [PyData.shown] using tokn _)
    | str x t => exact PySem.P.repr_of_str (by simpa [PyData.shown] using tokn _) (by simpa [PyData.shown] using hz)
    | list h1 h2 h3 h4 => exact repr_of_reads' (h₀ := s.heap) (.list h1 h2 h3 h4) sh (PyData.noDict_hsm hnd) hg hu (fun _ _ e => e) fin hz
    | tuple h1 h2 h3 h4 => exact repr_of_reads' (h₀ := s.heap) (.tuple h1 h2 h3 h4) sh (PyData.noDict_hsm hnd) hg hu (fun _ _ e => e) fin hz
    | dict h1 h2 h3 h4 h5 => cases hnd
  · obtain rfl : u = Value.ref a := ru
    obtain ⟨_, hsy, vs, kv, o, es, ep, ho, ex, hdat, _, prs, _⟩ := dk_of I.hok ha
    have hvs : vs = [] := by cases kv; rfl
    subst hvs
    have hes : es.toList = [] := by
      cases he : es.toList with
      | nil => rfl
      | cons e l => rw [he] at prs; cases prs
    have rd : Reads s.heap (.ref a) (.dict []) (a :: [] ++ []) := .dict ho ex.1 hdat (by rw [hes]; exact .nil) (by rw [hes]; exact .nil)
    exact repr_of_reads' (h₀ := s.heap) rd sh (fun _ hm => by
      have e : sysModules = a := by simpa using hm
      rw [e] at hsy
      simp at hsy) hg hu (fun _ _ e => e) fin hz
/-! ### isinstance of an error -/
structure XisC (K : PySem.W.Frag) (C : Addr) : Prop where
  x : XfC K C
  cl : (PySem.W.clsIn K C).isSome = true
  ca : PySem.W.findIn K (.ref C) "__class__" = some (some (.builtin "object.__class__"))
  cn : PySem.W.specialIn K (.builtin "object.__class__") "__get__" = some (some (.builtin "getset_descriptor.__get__"))
  ct : PySem.W.takesIn K (.builtin "object.__class__") = some true
  cm : PySem.W.mroIn K C (.type "object") = some true
def rIsE (K : PySem.W.Frag) : List V → Hp → VK → Prop := fun xs H Q => ∃ (a C : Addr) (dd : Option Addr) (c : V) (u : Value) (b : Bool), xs = [.ref a, c] ∧ ClsV c u ∧ XisC K C ∧ H a = some (exo a C dd) ∧ (∀ dx, dd = some dx → ∃ fs, H dx = some (exd dx fs)) ∧ PySem.W.kitOne K (.ref C) u = some b ∧ Q (.bl b) H
theorem call_isE (K : PySem.W.Frag) (hK : X.K = K) : CallR X (.builtin "isinstance") (rIsE K) := by
  subst hK
  intro pins s σ H xs us Q I r h
  obtain ⟨a, C, dd, c, u, b, rfl, k, T, ea, ed, e, q⟩ := h
  obtain ⟨u1, u2, rfl, r1, r2⟩ := vals2 r
  obtain rfl : u1 = Value.ref a := r1
  have e2 := k.eq r2
  subst e2
  obtain ⟨t1, ho⟩ := exo_at I.hok ea
  have J : ∃ od, PySem.W.InstAt s.heap a { cls := .ref C, dict := dd, data := .fields #[.ref t1, .none, .none, .none, .bool false, .none] } C od := by
    cases dd with
    | none => exact ⟨none, ho, rfl, rfl, trivial⟩
    | some dx =>
      obtain ⟨fs, e1⟩ := ed dx rfl
      obtain ⟨mA, hns, hr⟩ := exd_at I.hok e1
      obtain ⟨od, hod, hl⟩ := lookIn_ns hns
      exact ⟨some od, ho, rfl, rfl, hod⟩
  obtain ⟨od, J⟩ := J
  exact PySem.W.kia_one (PySem.W.kitx_exc (od := od) T.cl T.x.ga T.x.gg T.x.exC T.ca T.cn T.ct T.cm) I.kIn J e (fun z => nomatch z) fun tk => ⟨.bl b, H, I.tok tk, rfl, q⟩
/-- isinstance of anything -/
def rIsA (K : PySem.W.Frag) : List V → Hp → VK → Prop := fun xs H Q => rIsi K xs H Q ∨ rIsE K xs H Q
theorem call_isA (K : PySem.W.Frag) (hK : X.K = K) : CallR X (.builtin "isinstance") (rIsA K) := by
  intro pins s σ H xs us Q I r h
  rcases h with h | h
  · subst hK
    exact call_isi pins s σ H xs us Q I r h
  · exact call_isE K hK pins s σ H xs us Q I r h
/-! ### an error made by name -/
def tMkVK (C : Addr) (sp : Sp) (tk : TA) : TE := fun σ H Q => tk σ H fun zs H1 => zs.length = 1 ∧ ∀ a, H1 a = none → sp (.ref a :: zs) (upd H1 a (exo a C none)) (fun v H2 => v = .non ∧ Q (.ref a) H2) (fun _ _ _ => False)
theorem pe_oexK {CX : CXT} {x f : Str} {C fI : Addr} {k : Nat} {fd : FuncData} {sp : Sp} {kws : List Keyword} {tk : TA} {p pos : Pos} (T : OexC X.K C) (iC : PySem.W.findIn X.K (.ref C) "__init__" = some (some (.ref fI))) (tI : PySem.W.typeIn X.K (.ref fI) = some (.type "function"))
    (F1 : FnOk X.prog X.w X.K X.mg X.base CX k fI fd ["self", f] sp) (hr : Room (k + 1) X.A) (hb : ∀ (s : Shared) (u z : Value), BindsTo s fd ⟨[u], [(f, z)]⟩ [("self", u), (f, z)]) (hx : Passes CX X (fun _ _ _ => False)) (hg : Gl X x) (hm : X.mg x = some (.ref C)) (hkw : PK X kws tk)
    (hall : (backToKw pos (keywordEach kws X.env)).all (·.1.isSome) = true := by rfl) (hks : (backToKw pos (keywordEach kws X.env)).filterMap (·.1) = [f] := by rfl) (hdb : (x == ("__debug__" : Str)) = false := by decide)
    (hpl : ((backTo pos (starEach [] X.env)).any (·.1) || (backToKw pos (keywordEach kws X.env)).any (·.1.isNone)) = false := by rfl) :
    PE X (.Call (.Name x p) [] kws pos) (tMkVK C sp tk) := by
  refine ⟨fun pins s σ H Q I h => ?_⟩
  obtain ⟨nm, q, N, bs, bm, sn, sub, ab, col, dd, k0, k1, k2, k3, k5, hC, hbm⟩ := T.cls
  refine wpAny_Call_Name_kw (ld_glob I hg hm ?_ hdb)
  refine PySem.W.callWith_KW0 (h₀ := X.base) I.ok.mod.kin T.kC hall ?_ hpl
  refine thn (hkw.run pos pins s σ H _ I h) fun ws s1 ⟨zs, H1, I1, rz, l1, q1⟩ => ⟨I1.kIn, ?_⟩
  rw [hks]
  obtain ⟨hp, g, dr, tk, os⟩ := s1
  obtain ⟨z, rfl⟩ : ∃ z, ws = [z] := by
    have e : ws.length = 1 := rz.length.symm.trans l1
    match ws, e with
    | [z], _ => exact ⟨z, rfl⟩
  have hsz : hp.objs.size ≤ hp.objs.size + 1 := Nat.le_succ _
  have hn : H1 (hp.objs.size + 1) = none := I1.hok.fresh hsz
  have hq := q1 (hp.objs.size + 1) hn
  have kk : ∀ b o, hp.get? b = some o → ((hp.push (PySem.W.kdv_tup [])).push (PySem.HandSPX.excO C hp.objs.size)).get? b = some o := fun b o e => Heap.get?_push_of_some _ (Heap.get?_push_of_some _ e)
  have hget : ((hp.push (PySem.W.kdv_tup [])).push (PySem.HandSPX.excO C hp.objs.size)).get? (hp.objs.size + 1) = some (PySem.HandSPX.excO C hp.objs.size) := by heap_get
  have I2 : Inv X pins σ (upd H1 (hp.objs.size + 1) (exo (hp.objs.size + 1) C none)) ⟨(hp.push (PySem.W.kdv_tup [])).push (PySem.HandSPX.excO C hp.objs.size), g, dr, tk, os⟩ :=
    I1.laid (t' := tk) (a := hp.objs.size + 1) (o := exo (hp.objs.size + 1) C none) (h' := (hp.push (PySem.W.kdv_tup [])).push (PySem.HandSPX.excO C hp.objs.size)) kk hsz (exo_ok hget)
  have r2 : Vals (V.ref (hp.objs.size + 1) :: zs) [Value.ref (hp.objs.size + 1), z] := .cons rfl rz
  refine wpAny_call (PySem.HandSPX.call_ownK F.excBase_ValueError (fun Y => PySem.HandSPX.refsVE_contains Y bm hbm) (I1.kIn _ _ hC) (PySem.W.looks_findIn I1.kIn iC) (fun self => PySem.W.bind_fn I1.kIn self tI) (by show (0 : Nat) ≤ sizeLine; exact Nat.zero_le _)
    (codeAny_mono (F1.run _ X.stack _ _ ⟨[Value.ref (hp.objs.size + 1)], [(f, z)]⟩ [Value.ref (hp.objs.size + 1), z] _ _ (fun _ _ _ => False) (hr.make C [] [(f, z)]) (I2.env0.make C [] [(f, z)]) (hb _ _ _) r2 hq) fun r s' hq' => ?_))
  cases r with
  | error er => exact hx pins σ _ _ er s' I2 hq'
  | ok fl =>
    cases fl with
    | ret u =>
      obtain ⟨v, H2, os2, bare2, un2, hok2, rv, ev, q2⟩ := hq'
      subst ev
      obtain ⟨h2, g2, d2, t2, os'⟩ := s'
      exact ⟨rv, .ref (hp.objs.size + 1), H2, I2.call' (ch := []) os2 un2 hok2 bare2 (fun b z => absurd z (by simp)), rfl, q2⟩
    | next => exact False.elim hq'
    | brk => exact False.elim hq'
    | cont => exact False.elim hq'
end
end SR
set_option maxRecDepth 100000
set_option maxHeartbeats 4000000
/-! Errors as objects told by their class and what they keep. -/
namespace SR
open PySem PySem.Spec PyProof.Rows L2 Evl
/-- the classes: name, field -/
def erT : List (Str × Option Str) := [("BadPrime", some "prime"), ("BadTerm", some "index"), ("BadWidth", some "width"), ("BadRow", some "index"), ("BadCount", some "count"), ("BadPlace", some "place"), ("BadName", some "name"), ("NoName", some "name"), ("BadWord", some "word"), ("BadLine", some "index"),
  ("UnlikePrimes", none), ("ZeroFilter", none), ("BadRule", none), ("BadDigits", none), ("UnlikeTables", none), ("BadSequences", none), ("NoRows", none), ("NotCase", none), ("UnlikeWorlds", none), ("NotTold", none), ("Impossible", none), ("BadPlaces", none), ("NothingToUndo", none), ("BadText", none)]
theorem er_0 : erT[(0 : Nat)]? = some (("BadPrime" : Str), some ("prime" : Str)) := rfl
theorem er_1 : erT[(1 : Nat)]? = some (("BadTerm" : Str), some ("index" : Str)) := rfl
theorem er_2 : erT[(2 : Nat)]? = some (("BadWidth" : Str), some ("width" : Str)) := rfl
theorem er_3 : erT[(3 : Nat)]? = some (("BadRow" : Str), some ("index" : Str)) := rfl
theorem er_4 : erT[(4 : Nat)]? = some (("BadCount" : Str), some ("count" : Str)) := rfl
theorem er_5 : erT[(5 : Nat)]? = some (("BadPlace" : Str), some ("place" : Str)) := rfl
theorem er_6 : erT[(6 : Nat)]? = some (("BadName" : Str), some ("name" : Str)) := rfl
theorem er_7 : erT[(7 : Nat)]? = some (("NoName" : Str), some ("name" : Str)) := rfl
theorem er_8 : erT[(8 : Nat)]? = some (("BadWord" : Str), some ("word" : Str)) := rfl
theorem er_9 : erT[(9 : Nat)]? = some (("BadLine" : Str), some ("index" : Str)) := rfl
theorem er_10 : erT[(10 : Nat)]? = some (("UnlikePrimes" : Str), (none : Option Str)) := rfl
theorem er_11 : erT[(11 : Nat)]? = some (("ZeroFilter" : Str), (none : Option Str)) := rfl
theorem er_12 : erT[(12 : Nat)]? = some (("BadRule" : Str), (none : Option Str)) := rfl
theorem er_13 : erT[(13 : Nat)]? = some (("BadDigits" : Str), (none : Option Str)) := rfl
theorem er_14 : erT[(14 : Nat)]? = some (("UnlikeTables" : Str), (none : Option Str)) := rfl
theorem er_15 : erT[(15 : Nat)]? = some (("BadSequences" : Str), (none : Option Str)) := rfl
theorem er_16 : erT[(16 : Nat)]? = some (("NoRows" : Str), (none : Option Str)) := rfl
theorem er_17 : erT[(17 : Nat)]? = some (("NotCase" : Str), (none : Option Str)) := rfl
theorem er_18 : erT[(18 : Nat)]? = some (("UnlikeWorlds" : Str), (none : Option Str)) := rfl
theorem er_19 : erT[(19 : Nat)]? = some (("NotTold" : Str), (none : Option Str)) := rfl
theorem er_20 : erT[(20 : Nat)]? = some (("Impossible" : Str), (none : Option Str)) := rfl
theorem er_21 : erT[(21 : Nat)]? = some (("BadPlaces" : Str), (none : Option Str)) := rfl
theorem er_22 : erT[(22 : Nat)]? = some (("NothingToUndo" : Str), (none : Option Str)) := rfl
theorem er_23 : erT[(23 : Nat)]? = some (("BadText" : Str), (none : Option Str)) := rfl
abbrev ErS := Nat × V
def atE (CC : Nat → Addr) (H : Hp) (a : Addr) (w : ErS) : Prop := ∃ x of, erT[w.1]? = some (x, of) ∧
  ((of = none ∧ H a = some (exo a (CC w.1) none)) ∨ ∃ f dx, of = some f ∧ H a = some (exo a (CC w.1) (some dx)) ∧ H dx = some (exd dx [(f, w.2)]))
def ErO (CC : Nat → Addr) : OI ErS := ⟨fun H a w => atE CC H a w, fun {H H' a w} e h => by
  obtain ⟨x, of, h1, h2⟩ := h
  refine ⟨x, of, h1, ?_⟩
  rcases h2 with ⟨h2, h3⟩ | ⟨f, dx, h2, h3, h4⟩
  · exact .inl ⟨h2, e _ _ h3⟩
  · exact .inr ⟨f, dx, h2, e _ _ h3, e _ _ h4⟩⟩
/-- a class with its own __init__ -/
structure OwnE (P : Program) (w : World) (K : PySem.W.Frag) (mg : Str → Option Value) (base : Heap) (x f : Str) (C : Addr) : Prop where
  c : XcP P w K mg base x f C
  kb : ∃ fI fd, PySem.W.findIn K (.ref C) "__init__" = some (some (.ref fI)) ∧ PySem.W.typeIn K (.ref fI) = some (.type "function") ∧ FnOk P w K mg base CX0 1 fI fd ["self", f] (spXI C f) ∧ ∀ (s : Shared) (u z : Value), BindsTo s fd ⟨[u], [(f, z)]⟩ [("self", u), (f, z)]
structure ErAll (P : Program) (w : World) (K : PySem.W.Frag) (mg : Str → Option Value) (base : Heap) (CC : Nat → Addr) (CS : Addr) : Prop where
  own : ∀ i x f, erT[i]? = some (x, some f) → OwnE P w K mg base x f (CC i)
  non : ∀ i x, erT[i]? = some (x, none) → ExP K mg x (CC i)
  is : ∀ i, i < 24 → XisC K (CC i)
  kit : ∀ i j, i < 24 → j < 24 → PySem.W.kitOne K (.ref (CC i)) (.ref (CC j)) = some (decide (i = j))
  seen : ∀ i, i < 24 → PySem.W.kitOne K (.ref (CC i)) (.ref CS) = some true
  val : ∀ i, i < 24 → PySem.W.kitOne K (.ref (CC i)) (.type "ValueError") = some true
  gS : mg "SeenError" = some (.ref CS)
theorem ErAll.g {P : Program} {w : World} {K : PySem.W.Frag} {mg : Str → Option Value} {base : Heap} {CC : Nat → Addr} {CS : Addr} (T : ErAll P w K mg base CC CS) {i : Nat} {x : Str} {of : Option Str} (h : erT[i]? = some (x, of)) : mg x = some (.ref (CC i)) := by
  cases of with
  | none => exact (T.non i x h).g
  | some f => exact (T.own i x f h).c.g
section
variable {X : Cx} {CC : Nat → Addr} {CS : Addr} {x f : Str} {i : Nat} {e : Expr} {es : List Expr} {ta tk : TA} {te : TE} {p pos : Pos} {kws : List Keyword}
theorem pe_erV (T : ErAll X.prog X.w X.K X.mg X.base CC CS) (i : Nat) (h : erT[i]? = some (x, some f)) (hr : Room 2 X.A) (ha : PA X (e :: es) ta) (hg : Gl X x := by rfl) (hdb : (x == ("__debug__" : Str)) = false := by decide)
    (he : starEach (e :: es) X.env = (false, eval e X.env) :: starEach es X.env := by rfl) (hpl : (backTo pos (starEach es X.env)).any (·.1) = false := by rfl) :
    PE X (.Call (.Name x p) (e :: es) [] pos) (tMkV (CC i) (spXI (CC i) f) [] ta) := by
  obtain ⟨fI, fd, h1, h2, hb, F⟩ := (T.own i x f h).c.init
  exact pe_oexV (T.own i x f h).c.T h1 h2 F hr hb .nil pass0 hg (T.g h) ha hdb he hpl
theorem pe_erK (T : ErAll X.prog X.w X.K X.mg X.base CC CS) (i : Nat) (h : erT[i]? = some (x, some f)) (hr : Room 2 X.A) (hkw : PK X kws tk) (hg : Gl X x := by rfl)
    (hall : (backToKw pos (keywordEach kws X.env)).all (·.1.isSome) = true := by rfl) (hks : (backToKw pos (keywordEach kws X.env)).filterMap (·.1) = [f] := by rfl) (hdb : (x == ("__debug__" : Str)) = false := by decide)
    (hpl : ((backTo pos (starEach [] X.env)).any (·.1) || (backToKw pos (keywordEach kws X.env)).any (·.1.isNone)) = false := by rfl) :
    PE X (.Call (.Name x p) [] kws pos) (tMkVK (CC i) (spXI (CC i) f) tk) := by
  obtain ⟨fI, fd, h1, h2, F, hb⟩ := (T.own i x f h).kb
  exact pe_oexK (T.own i x f h).c.T h1 h2 F hr hb pass0 hg (T.g h) hkw hall hks hdb hpl
def tMk0 (C : Addr) : TE := fun σ H Q => ∀ a, H a = none → Q (.ref a) (upd H a (exo a C none))
theorem pe_er0 (T : ErAll X.prog X.w X.K X.mg X.base CC CS) (i : Nat) (h : erT[i]? = some (x, none)) (hg : Gl X x := by rfl) (hdb : (x == ("__debug__" : Str)) = false := by decide) : PE X (.Call (.Name x p) [] [] pos) (tMk0 (CC i)) :=
  pe_exc0 PySem.F.excBase_ValueError (T.non i x h).e (T.non i x h).g (T.non i x h).k hg hdb
end
section
variable {K : PySem.W.Frag} {CC : Nat → Addr} {σ : L2.St} {G : Hp} {x f : Str} {i j : Nat} {v : V} {te tc : TE}
/-- where an error was made -/
theorem er_le {H : Hp} (e : Ex G H) (h : erT[i]? = some (x, some f)) {a dx : Addr} (ha : H a = none) (hdx : H dx = none) (ne : dx ≠ a) :
    ∃ G2, Le G H G2 (upd (upd H dx (exd dx [(f, v)])) a (exo a (CC i) (some dx))) ∧ At K (ErO CC) G2 (.obj (i, v)) (.ref a) := by
  have l1 := Le.new e (o := exd dx [(f, v)]) hdx
  have ha1 : upd H dx (exd dx [(f, v)]) a = none := by rw [upd_ne (Ne.symm ne)]; exact ha
  have l2 := Le.new l1.e (o := exo a (CC i) (some dx)) ha1
  refine ⟨_, l1.trans l2, at_obj.mpr ⟨a, rfl, x, some f, h, .inr ⟨f, dx, rfl, upd_same, ?_⟩⟩⟩
  rw [upd_ne ne, upd_same]
theorem er_up {H : Hp} {a dx : Addr} {C : Addr} (ne : dx ≠ a) : upd (upd (upd H a (exo a C none)) dx (exd dx [(f, v)])) a (exo a C (some dx)) = upd (upd H dx (exd dx [(f, v)])) a (exo a C (some dx)) := by
  funext b
  by_cases hb : b = a
  · rw [hb, upd_same, upd_same]
  · rw [upd_ne hb, upd_ne hb]
    by_cases hd : b = dx
    · rw [hd, upd_same, upd_same]
    · rw [upd_ne hd, upd_ne hd, upd_ne hb]
theorem ed_erV (h : erT[i]? = some (x, some f)) (hv : σ[j]? = some (some v)) : EvD K (ErO CC) (tMkV (CC i) (spXI (CC i) f) [] (tCons (tVar j) tNil)) σ G (.obj (i, v)) := fun H e Q k =>
  ⟨v, hv, by show 1 ≤ 1000; decide, fun a ha => ⟨a, v, rfl, upd_same, fun dx hdx ne => ⟨rfl, by
    have hdx' : H dx = none := by rw [upd_ne ne] at hdx; exact hdx
    obtain ⟨G2, l, at2⟩ := er_le (K := K) (CC := CC) (v := v) e h ha hdx' ne
    rw [er_up ne]
    exact k _ G2 _ l at2⟩⟩⟩
theorem ed_erK (h : erT[i]? = some (x, some f)) (hv : σ[j]? = some (some v)) : EvD K (ErO CC) (tMkVK (CC i) (spXI (CC i) f) (tCons (tVar j) tNil)) σ G (.obj (i, v)) := fun H e Q k =>
  ⟨v, hv, rfl, fun a ha => ⟨a, v, rfl, upd_same, fun dx hdx ne => ⟨rfl, by
    have hdx' : H dx = none := by rw [upd_ne ne] at hdx; exact hdx
    obtain ⟨G2, l, at2⟩ := er_le (K := K) (CC := CC) (v := v) e h ha hdx' ne
    rw [er_up ne]
    exact k _ G2 _ l at2⟩⟩⟩
theorem ed_er0 (h : erT[i]? = some (x, none)) : EvD K (ErO CC) (tMk0 (CC i)) σ G (.obj (i, V.non)) := fun H e Q k a ha =>
  k _ _ _ (Le.new e ha) (at_obj.mpr ⟨a, rfl, x, none, h, .inl ⟨rfl, upd_same⟩⟩)
theorem ed_erF {d : D ErS} (he : EvD K (ErO CC) te σ G (.obj (i, v))) (h : erT[i]? = some (x, some f)) (X : XfC K (CC i)) (no : PySem.W.findIn K (.ref (CC i)) f = some none) (a : At K (ErO CC) G d v) : EvD K (ErO CC) (tExf K f te) σ G d := fun H e Q k =>
  he H e _ fun u G2 H2 l ad => by
    obtain ⟨b, rfl, x', of, h', h2⟩ := at_obj.mp ad
    rw [h] at h'
    cases h'
    rcases h2 with ⟨z, _⟩ | ⟨f', dx, hf, e1, e2⟩
    · cases z
    · cases hf
      exact ⟨b, CC i, dx, [(f, v)], v, rfl, X, no, l.e _ _ e1, l.e _ _ e2, by simp [List.lookup], k v G2 H2 l (a.mono l.g)⟩
theorem ev_isE {c : V} {u : Value} {b : Bool} (he : EvD K (ErO CC) te σ G (.obj (i, v))) (X : XisC K (CC i)) (hc : Ev tc σ G c) (cv : ClsV c u) (hk : PySem.W.kitOne K (.ref (CC i)) u = some b) : Ev (tCB (rIsA K) (tCons te (tCons tc tNil))) σ G (.bl b) := fun H e Q q =>
  he H e _ fun w G2 H2 l ad => hc H2 (e.trans l.h) _ fun H3 e3 => by
    obtain ⟨a, rfl, x', of, h', h2⟩ := at_obj.mp ad
    rcases h2 with ⟨_, e1⟩ | ⟨f', dx, _, e1, e2⟩
    · exact .inr ⟨a, CC i, none, c, u, b, rfl, cv, X, e3 _ _ (l.e _ _ e1), (fun dx z => nomatch z), hk, q H3 (l.h.trans e3)⟩
    · exact .inr ⟨a, CC i, some dx, c, u, b, rfl, cv, X, e3 _ _ (l.e _ _ e1), (fun dy z => by cases z; exact ⟨_, e3 _ _ (l.e _ _ e2)⟩), hk, q H3 (l.h.trans e3)⟩
end
/-! ### repr of told data -/
section
variable {ω : Type} {K : PySem.W.Frag} {O : OI ω} {G : Hp} {te : TE} {σ : L2.St}
def showP : D ω → PyData | .dic _ => .dict [] | d => toP d
/-- what the law shows -/
structure Shown (x : D ω) : Prop where
  f : (noObj x = true ∧ showP x = toP x) ∨ x = .dic []
  s : (showP x).showable = true
  h : (showP x).hasDict = true → showP x = .dict []
  d : (showP x).depth ≤ 100
  z : (showP x).shown.length ≤ sizeLine
theorem ev_repr {d : D ω} (h : EvD K O te σ G d) (S : Shown d) : Ev (tCB (rRepr K) (tCons te tNil)) σ G (.str (showP d).shown) := fun H e Q q =>
  h H e _ fun v G2 H2 l a => ⟨v, showP d, rfl, by
    rcases S.f with ⟨hf, e2⟩ | rfl
    · rw [e2]
      exact .inl (dp_of hf (a.mono l.e))
    · obtain ⟨b, rfl, h2⟩ := at_dic.mp a
      exact .inr ⟨b, rfl, l.e _ _ h2, rfl⟩, S.s, S.h, S.d, S.z, q H2 l.h⟩
end
end SR
set_option maxRecDepth 100000
set_option maxHeartbeats 4000000
namespace SR
open PySem PySem.Spec PyProof.Rows L2 Evl
/-! ### k27: the law's helpers over errors -/
/-- the first n classes' errors, all keeping v -/
def ersL (n : Nat) (v : V) : List (D ErS) := (List.range n).map fun i => .obj (i, v)
/-- the classes from m on, n of them, nothing kept -/
def ers0 (m n : Nat) : List (D ErS) := (List.range n).map fun i => .obj (m + i, V.non)
section
variable {P : Program} {w : World} {K : PySem.W.Frag} {mg : Str → Option Value} {base : Heap} {CC : Nat → Addr} {CS : Addr}
def spWith (K : PySem.W.Frag) (CC : Nat → Addr) : Sp := fun vs H Q _ => ∃ G v, vs = [v] ∧ Ex G H ∧ RetG K (ErO CC) (.lst (ersL 10 v ++ ersL 10 v)) G H Q
abbrev _law_with_fields_S : Stmt := topS 30
abbrev _law_with_fields_N : List Str := ["_law_thing", "_law_found"]
theorem _law_with_fields_sc : FnScope _law_with_fields_N ["_law_thing"] (defScope _law_with_fields_S) := ⟨rfl, rfl, rfl, by decide +kernel, rfl, by decide +kernel, by decide +kernel⟩
theorem ok_with {f : Addr} {fd : FuncData} (F : Fun K "_law_with_fields" "_law_with_fields" _law_with_fields_S f fd) (B : Bi mg) (h_T : ErAll P w K mg base CC CS) : FnOk P w K mg base CX0 3 f fd ["_law_thing"] (spWith K CC) := by
  refine F.ok _law_with_fields_sc (fun vs H Q E h => ?_) (fun cdv A outer s0 H vs Q E hr h => ?_)
  · obtain ⟨G, v, rfl, _⟩ := h
    rfl
  · obtain ⟨G, v, rfl, e, k⟩ := h
    refine ⟨_, (pss_cons (ps_set (i := 1) _law_with_fields_sc.nd rfl (Or.inl rfl) (pe_lst (pa_cons (pe_erV h_T 0 er_0 (hr.mono (by first | decide | exact Nat.le_refl _)) (pa_cons (pv 0) pa_nil)) (pa_cons (pe_erV h_T 1 er_1 (hr.mono (by first | decide | exact Nat.le_refl _)) (pa_cons (pv 0) pa_nil)) (pa_cons (pe_erV h_T 2 er_2 (hr.mono (by first | decide | exact Nat.le_refl _)) (pa_cons (pv 0) pa_nil)) (pa_cons (pe_erV h_T 3 er_3 (hr.mono (by first | decide | exact Nat.le_refl _)) (pa_cons (pv 0) pa_nil)) (pa_cons (pe_erV h_T 4 er_4 (hr.mono (by first | decide | exact Nat.le_refl _)) (pa_cons (pv 0) pa_nil)) (pa_cons (pe_erV h_T 5 er_5 (hr.mono (by first | decide | exact Nat.le_refl _)) (pa_cons (pv 0) pa_nil)) pa_nil))))))))
    (pss_cons (ps_set (i := 1) _law_with_fields_sc.nd rfl (Or.inl rfl) (pe_op op_cat (pv 1) (pe_lst (pa_cons (pe_erV h_T 6 er_6 (hr.mono (by first | decide | exact Nat.le_refl _)) (pa_cons (pv 0) pa_nil)) (pa_cons (pe_erV h_T 7 er_7 (hr.mono (by first | decide | exact Nat.le_refl _)) (pa_cons (pv 0) pa_nil)) (pa_cons (pe_erV h_T 8 er_8 (hr.mono (by first | decide | exact Nat.le_refl _)) (pa_cons (pv 0) pa_nil)) (pa_cons (pe_erV h_T 9 er_9 (hr.mono (by first | decide | exact Nat.le_refl _)) (pa_cons (pv 0) pa_nil)) pa_nil)))))))
    (pss_cons (ps_set (i := 1) _law_with_fields_sc.nd rfl (Or.inl rfl) (pe_op op_cat (pv 1) (pe_lst (pa_cons (pe_erK h_T 0 er_0 (hr.mono (by first | decide | exact Nat.le_refl _)) (pk_cons (pv 0) pk_nil)) (pa_cons (pe_erK h_T 1 er_1 (hr.mono (by first | decide | exact Nat.le_refl _)) (pk_cons (pv 0) pk_nil)) (pa_cons (pe_erK h_T 2 er_2 (hr.mono (by first | decide | exact Nat.le_refl _)) (pk_cons (pv 0) pk_nil)) (pa_cons (pe_erK h_T 3 er_3 (hr.mono (by first | decide | exact Nat.le_refl _)) (pk_cons (pv 0) pk_nil)) pa_nil)))))))
    (pss_cons (ps_set (i := 1) _law_with_fields_sc.nd rfl (Or.inl rfl) (pe_op op_cat (pv 1) (pe_lst (pa_cons (pe_erK h_T 4 er_4 (hr.mono (by first | decide | exact Nat.le_refl _)) (pk_cons (pv 0) pk_nil)) (pa_cons (pe_erK h_T 5 er_5 (hr.mono (by first | decide | exact Nat.le_refl _)) (pk_cons (pv 0) pk_nil)) (pa_cons (pe_erK h_T 6 er_6 (hr.mono (by first | decide | exact Nat.le_refl _)) (pk_cons (pv 0) pk_nil)) (pa_cons (pe_erK h_T 7 er_7 (hr.mono (by first | decide | exact Nat.le_refl _)) (pk_cons (pv 0) pk_nil)) pa_nil)))))))
    (pss_one (ps_ret (pe_op op_cat (pv 1) (pe_lst (pa_cons (pe_erK h_T 8 er_8 (hr.mono (by first | decide | exact Nat.le_refl _)) (pk_cons (pv 0) pk_nil)) (pa_cons (pe_erK h_T 9 er_9 (hr.mono (by first | decide | exact Nat.le_refl _)) (pk_cons (pv 0) pk_nil)) pa_nil)))))))))), ?_⟩
    refine q_asgD (K := K) (O := ErO CC) (i := 1) (ed_lst (eda_cons (ed_erV (i := 0) (j := 0) er_0 rfl) (eda_cons (ed_erV (i := 1) (j := 0) er_1 rfl) (eda_cons (ed_erV (i := 2) (j := 0) er_2 rfl) (eda_cons (ed_erV (i := 3) (j := 0) er_3 rfl) (eda_cons (ed_erV (i := 4) (j := 0) er_4 rfl) (eda_cons (ed_erV (i := 5) (j := 0) er_5 rfl) eda_nil)))))) (by show 6 ≤ 100000; decide)) e fun v1 G1 H1 l1 a1 => ?_
    refine q_asgD (K := K) (O := ErO CC) (i := 1) (ed_cat (ed_var (i := 1) rfl a1) (ed_lst (eda_cons (ed_erV (i := 6) (j := 0) er_6 rfl) (eda_cons (ed_erV (i := 7) (j := 0) er_7 rfl) (eda_cons (ed_erV (i := 8) (j := 0) er_8 rfl) (eda_cons (ed_erV (i := 9) (j := 0) er_9 rfl) eda_nil)))) (by show 4 ≤ 100000; decide)) (by show 6 + 4 ≤ 100000; decide)) l1.e fun v2 G2 H2 m2 a2 => ?_
    have l2 := l1.trans m2
    refine q_asgD (K := K) (O := ErO CC) (i := 1) (ed_cat (ed_var (i := 1) rfl a2) (ed_lst (eda_cons (ed_erK (i := 0) (j := 0) er_0 rfl) (eda_cons (ed_erK (i := 1) (j := 0) er_1 rfl) (eda_cons (ed_erK (i := 2) (j := 0) er_2 rfl) (eda_cons (ed_erK (i := 3) (j := 0) er_3 rfl) eda_nil)))) (by show 4 ≤ 100000; decide)) (by show 10 + 4 ≤ 100000; decide)) l2.e fun v3 G3 H3 m3 a3 => ?_
    have l3 := l2.trans m3
    refine q_asgD (K := K) (O := ErO CC) (i := 1) (ed_cat (ed_var (i := 1) rfl a3) (ed_lst (eda_cons (ed_erK (i := 4) (j := 0) er_4 rfl) (eda_cons (ed_erK (i := 5) (j := 0) er_5 rfl) (eda_cons (ed_erK (i := 6) (j := 0) er_6 rfl) (eda_cons (ed_erK (i := 7) (j := 0) er_7 rfl) eda_nil)))) (by show 4 ≤ 100000; decide)) (by show 14 + 4 ≤ 100000; decide)) l3.e fun v4 G4 H4 m4 a4 => ?_
    have l4 := l3.trans m4
    refine rw_ret ((ed_cat (ed_var (i := 1) rfl a4) (ed_lst (eda_cons (ed_erK (i := 8) (j := 0) er_8 rfl) (eda_cons (ed_erK (i := 9) (j := 0) er_9 rfl) eda_nil)) (by show 2 ≤ 100000; decide)) (by show 18 + 2 ≤ 100000; decide)) H4 l4.e _ fun v5 G5 H5 m5 a5 => ?_)
    exact k v5 G5 H5 (l4.trans m5) (by exact a5)
def spFields (K : PySem.W.Frag) (CC : Nat → Addr) : Sp := fun vs H Q _ => ∃ G e v d, vs = [e] ∧ Ex G H ∧ At K (ErO CC) G (.lst (ersL 10 v)) e ∧ At K (ErO CC) G d v ∧ RetG K (ErO CC) (.lst (List.replicate 10 d)) G H Q
abbrev _law_fields_S : Stmt := topS 31
abbrev _law_fields_N : List Str := ["_law_e", "_law_found"]
theorem _law_fields_sc : FnScope _law_fields_N ["_law_e"] (defScope _law_fields_S) := ⟨rfl, rfl, rfl, by decide +kernel, rfl, by decide +kernel, by decide +kernel⟩
theorem ok_fields {f : Addr} {fd : FuncData} (F : Fun K "_law_fields" "_law_fields" _law_fields_S f fd) (B : Bi mg) (h_T : ErAll P w K mg base CC CS) : FnOk P w K mg base CX0 3 f fd ["_law_e"] (spFields K CC) := by
  refine F.ok _law_fields_sc (fun vs H Q E h => ?_) (fun cdv A outer s0 H vs Q E hr h => ?_)
  · obtain ⟨G, e, v, d, rfl, _⟩ := h
    rfl
  · obtain ⟨G, e, v, d, rfl, eG, ae, ad, k⟩ := h
    refine ⟨_, (pss_cons (ps_set (i := 1) _law_fields_sc.nd rfl (Or.inl rfl) (pe_lst (pa_cons (pe_exf (pe_ixK K (pv 0) pe_int (fun _ _ => rfl))) (pa_cons (pe_exf (pe_ixK K (pv 0) pe_int (fun _ _ => rfl))) (pa_cons (pe_exf (pe_ixK K (pv 0) pe_int (fun _ _ => rfl))) (pa_cons (pe_exf (pe_ixK K (pv 0) pe_int (fun _ _ => rfl))) (pa_cons (pe_exf (pe_ixK K (pv 0) pe_int (fun _ _ => rfl))) (pa_cons (pe_exf (pe_ixK K (pv 0) pe_int (fun _ _ => rfl))) pa_nil))))))))
    (pss_one (ps_ret (pe_op op_cat (pv 1) (pe_lst (pa_cons (pe_exf (pe_ixK K (pv 0) pe_int (fun _ _ => rfl))) (pa_cons (pe_exf (pe_ixK K (pv 0) pe_int (fun _ _ => rfl))) (pa_cons (pe_exf (pe_ixK K (pv 0) pe_int (fun _ _ => rfl))) (pa_cons (pe_exf (pe_ixK K (pv 0) pe_int (fun _ _ => rfl))) pa_nil))))))))), ?_⟩
    refine q_asgD (K := K) (O := ErO CC) (i := 1) (ed_lst (eda_cons (ed_erF (i := 0) (v := v) (ed_item (i := 0) (ed_var (i := 0) rfl (ae)) ev_c rfl) er_0 (h_T.is 0 (by decide)).x (h_T.own 0 _ _ er_0).c.no (ad)) (eda_cons (ed_erF (i := 1) (v := v) (ed_item (i := 1) (ed_var (i := 0) rfl (ae)) ev_c rfl) er_1 (h_T.is 1 (by decide)).x (h_T.own 1 _ _ er_1).c.no (ad)) (eda_cons (ed_erF (i := 2) (v := v) (ed_item (i := 2) (ed_var (i := 0) rfl (ae)) ev_c rfl) er_2 (h_T.is 2 (by decide)).x (h_T.own 2 _ _ er_2).c.no (ad)) (eda_cons (ed_erF (i := 3) (v := v) (ed_item (i := 3) (ed_var (i := 0) rfl (ae)) ev_c rfl) er_3 (h_T.is 3 (by decide)).x (h_T.own 3 _ _ er_3).c.no (ad)) (eda_cons (ed_erF (i := 4) (v := v) (ed_item (i := 4) (ed_var (i := 0) rfl (ae)) ev_c rfl) er_4 (h_T.is 4 (by decide)).x (h_T.own 4 _ _ er_4).c.no (ad)) (eda_cons (ed_erF (i := 5) (v := v) (ed_item (i := 5) (ed_var (i := 0) rfl (ae)) ev_c rfl) er_5 (h_T.is 5 (by decide)).x (h_T.own 5 _ _ er_5).c.no (ad)) eda_nil)))))) (by show 6 ≤ 100000; decide)) eG fun v1 G1 H1 l1 a1 => ?_
    refine rw_ret ((ed_cat (ed_var (i := 1) rfl a1) (ed_lst (eda_cons (ed_erF (i := 6) (v := v) (ed_item (i := 6) (ed_var (i := 0) rfl (ae.mono l1.g)) ev_c rfl) er_6 (h_T.is 6 (by decide)).x (h_T.own 6 _ _ er_6).c.no (ad.mono l1.g)) (eda_cons (ed_erF (i := 7) (v := v) (ed_item (i := 7) (ed_var (i := 0) rfl (ae.mono l1.g)) ev_c rfl) er_7 (h_T.is 7 (by decide)).x (h_T.own 7 _ _ er_7).c.no (ad.mono l1.g)) (eda_cons (ed_erF (i := 8) (v := v) (ed_item (i := 8) (ed_var (i := 0) rfl (ae.mono l1.g)) ev_c rfl) er_8 (h_T.is 8 (by decide)).x (h_T.own 8 _ _ er_8).c.no (ad.mono l1.g)) (eda_cons (ed_erF (i := 9) (v := v) (ed_item (i := 9) (ed_var (i := 0) rfl (ae.mono l1.g)) ev_c rfl) er_9 (h_T.is 9 (by decide)).x (h_T.own 9 _ _ er_9).c.no (ad.mono l1.g)) eda_nil)))) (by show 4 ≤ 100000; decide)) (by show 6 + 4 ≤ 100000; decide)) H1 l1.e _ fun v2 G2 H2 m2 a2 => ?_)
    exact k v2 G2 H2 (l1.trans m2) (by exact a2)
def rPlain : List (D ErS) → D ErS → Prop := fun ds d => ds = [] ∧ d = .lst (ers0 10 14)
abbrev _law_plain_ones_S : Stmt := topS 32
abbrev _law_plain_ones_N : List Str := ["_law_found"]
theorem _law_plain_ones_sc : FnScope _law_plain_ones_N [] (defScope _law_plain_ones_S) := ⟨rfl, rfl, rfl, by decide +kernel, rfl, by decide +kernel, by decide +kernel⟩
theorem ok_plain {f : Addr} {fd : FuncData} (F : Fun K "_law_plain_ones" "_law_plain_ones" _law_plain_ones_S f fd) (B : Bi mg) (h_T : ErAll P w K mg base CC CS) : FnOk P w K mg base CX0 3 f fd [] (SpD K (ErO CC) rPlain) := by
  refine F.ok _law_plain_ones_sc (fun vs H Q E h => ?_) (fun cdv A outer s0 H vs Q E hr h => ?_)
  · obtain ⟨G, ds, d, e, as, ⟨rfl, rfl⟩, k⟩ := h
    exact as.len
  · obtain ⟨G, ds, d, e, as, ⟨rfl, rfl⟩, k⟩ := h
    obtain rfl := atL_nil.mp as
    refine ⟨_, (pss_cons (ps_set (i := 0) _law_plain_ones_sc.nd rfl (Or.inl rfl) (pe_lst (pa_cons (pe_er0 h_T 10 er_10) (pa_cons (pe_er0 h_T 11 er_11) (pa_cons (pe_er0 h_T 12 er_12) (pa_cons (pe_er0 h_T 13 er_13) (pa_cons (pe_er0 h_T 14 er_14) (pa_cons (pe_er0 h_T 15 er_15) (pa_cons (pe_er0 h_T 16 er_16) pa_nil)))))))))
    (pss_one (ps_ret (pe_op op_cat (pv 0) (pe_lst (pa_cons (pe_er0 h_T 17 er_17) (pa_cons (pe_er0 h_T 18 er_18) (pa_cons (pe_er0 h_T 19 er_19) (pa_cons (pe_er0 h_T 20 er_20) (pa_cons (pe_er0 h_T 21 er_21) (pa_cons (pe_er0 h_T 22 er_22) (pa_cons (pe_er0 h_T 23 er_23) pa_nil)))))))))))), ?_⟩
    refine q_asgD (K := K) (O := ErO CC) (i := 0) (ed_lst (eda_cons (ed_er0 (i := 10) er_10) (eda_cons (ed_er0 (i := 11) er_11) (eda_cons (ed_er0 (i := 12) er_12) (eda_cons (ed_er0 (i := 13) er_13) (eda_cons (ed_er0 (i := 14) er_14) (eda_cons (ed_er0 (i := 15) er_15) (eda_cons (ed_er0 (i := 16) er_16) eda_nil))))))) (by show 7 ≤ 100000; decide)) e fun v1 G1 H1 l1 a1 => ?_
    refine rw_ret ((ed_cat (ed_var (i := 0) rfl a1) (ed_lst (eda_cons (ed_er0 (i := 17) er_17) (eda_cons (ed_er0 (i := 18) er_18) (eda_cons (ed_er0 (i := 19) er_19) (eda_cons (ed_er0 (i := 20) er_20) (eda_cons (ed_er0 (i := 21) er_21) (eda_cons (ed_er0 (i := 22) er_22) (eda_cons (ed_er0 (i := 23) er_23) eda_nil))))))) (by show 7 ≤ 100000; decide)) (by show 7 + 7 ≤ 100000; decide)) H1 l1.e _ fun v2 G2 H2 m2 a2 => ?_)
    exact k v2 G2 H2 (l1.trans m2) (by exact a2)
def rClasses : List (D ErS) → D ErS → Prop := fun ds d => ∃ i v, i < 24 ∧ ds = [.obj (i, v)] ∧ d = .lst ((List.range 24).map fun k => .bl (decide (i = k)))
abbrev _law_classes_S : Stmt := topS 33
abbrev _law_classes_N : List Str := ["_law_e", "_law_found"]
theorem _law_classes_sc : FnScope _law_classes_N ["_law_e"] (defScope _law_classes_S) := ⟨rfl, rfl, rfl, by decide +kernel, rfl, by decide +kernel, by decide +kernel⟩
theorem ok_classes {f : Addr} {fd : FuncData} (F : Fun K "_law_classes" "_law_classes" _law_classes_S f fd) (B : Bi mg) (h_T : ErAll P w K mg base CC CS) : FnOk P w K mg base CX0 3 f fd ["_law_e"] (SpD K (ErO CC) rClasses) := by
  refine F.ok _law_classes_sc (fun vs H Q E h => ?_) (fun cdv A outer s0 H vs Q E hr h => ?_)
  · obtain ⟨G, ds, d, e, as, ⟨i, v, hi, rfl, rfl⟩, k⟩ := h
    exact as.len
  · obtain ⟨G, ds, d, e, as, ⟨i, v, hi, rfl, rfl⟩, k⟩ := h
    obtain ⟨u, r0, rfl, a, nn⟩ := atL_cons.mp as
    obtain rfl := atL_nil.mp nn
    refine ⟨_, (pss_cons (ps_set (i := 1) _law_classes_sc.nd rfl (Or.inl rfl) (pe_lst (pa_cons (pe_callB (call_isA K rfl) (by rfl) B.isinstance (by decide +kernel) (pa_cons (pv 0) (pa_cons (pe_glob (v := .ref (CC 0)) rfl (h_T.g er_0) rfl) pa_nil))) (pa_cons (pe_callB (call_isA K rfl) (by rfl) B.isinstance (by decide +kernel) (pa_cons (pv 0) (pa_cons (pe_glob (v := .ref (CC 1)) rfl (h_T.g er_1) rfl) pa_nil))) (pa_cons (pe_callB (call_isA K rfl) (by rfl) B.isinstance (by decide +kernel) (pa_cons (pv 0) (pa_cons (pe_glob (v := .ref (CC 2)) rfl (h_T.g er_2) rfl) pa_nil))) (pa_cons (pe_callB (call_isA K rfl) (by rfl) B.isinstance (by decide +kernel) (pa_cons (pv 0) (pa_cons (pe_glob (v := .ref (CC 3)) rfl (h_T.g er_3) rfl) pa_nil))) pa_nil))))))
    (pss_cons (ps_set (i := 1) _law_classes_sc.nd rfl (Or.inl rfl) (pe_op op_cat (pv 1) (pe_lst (pa_cons (pe_callB (call_isA K rfl) (by rfl) B.isinstance (by decide +kernel) (pa_cons (pv 0) (pa_cons (pe_glob (v := .ref (CC 4)) rfl (h_T.g er_4) rfl) pa_nil))) (pa_cons (pe_callB (call_isA K rfl) (by rfl) B.isinstance (by decide +kernel) (pa_cons (pv 0) (pa_cons (pe_glob (v := .ref (CC 5)) rfl (h_T.g er_5) rfl) pa_nil))) (pa_cons (pe_callB (call_isA K rfl) (by rfl) B.isinstance (by decide +kernel) (pa_cons (pv 0) (pa_cons (pe_glob (v := .ref (CC 6)) rfl (h_T.g er_6) rfl) pa_nil))) (pa_cons (pe_callB (call_isA K rfl) (by rfl) B.isinstance (by decide +kernel) (pa_cons (pv 0) (pa_cons (pe_glob (v := .ref (CC 7)) rfl (h_T.g er_7) rfl) pa_nil))) pa_nil)))))))
    (pss_cons (ps_set (i := 1) _law_classes_sc.nd rfl (Or.inl rfl) (pe_op op_cat (pv 1) (pe_lst (pa_cons (pe_callB (call_isA K rfl) (by rfl) B.isinstance (by decide +kernel) (pa_cons (pv 0) (pa_cons (pe_glob (v := .ref (CC 8)) rfl (h_T.g er_8) rfl) pa_nil))) (pa_cons (pe_callB (call_isA K rfl) (by rfl) B.isinstance (by decide +kernel) (pa_cons (pv 0) (pa_cons (pe_glob (v := .ref (CC 9)) rfl (h_T.g er_9) rfl) pa_nil))) (pa_cons (pe_callB (call_isA K rfl) (by rfl) B.isinstance (by decide +kernel) (pa_cons (pv 0) (pa_cons (pe_glob (v := .ref (CC 10)) rfl (h_T.g er_10) rfl) pa_nil))) pa_nil))))))
    (pss_cons (ps_set (i := 1) _law_classes_sc.nd rfl (Or.inl rfl) (pe_op op_cat (pv 1) (pe_lst (pa_cons (pe_callB (call_isA K rfl) (by rfl) B.isinstance (by decide +kernel) (pa_cons (pv 0) (pa_cons (pe_glob (v := .ref (CC 11)) rfl (h_T.g er_11) rfl) pa_nil))) (pa_cons (pe_callB (call_isA K rfl) (by rfl) B.isinstance (by decide +kernel) (pa_cons (pv 0) (pa_cons (pe_glob (v := .ref (CC 12)) rfl (h_T.g er_12) rfl) pa_nil))) (pa_cons (pe_callB (call_isA K rfl) (by rfl) B.isinstance (by decide +kernel) (pa_cons (pv 0) (pa_cons (pe_glob (v := .ref (CC 13)) rfl (h_T.g er_13) rfl) pa_nil))) pa_nil))))))
    (pss_cons (ps_set (i := 1) _law_classes_sc.nd rfl (Or.inl rfl) (pe_op op_cat (pv 1) (pe_lst (pa_cons (pe_callB (call_isA K rfl) (by rfl) B.isinstance (by decide +kernel) (pa_cons (pv 0) (pa_cons (pe_glob (v := .ref (CC 14)) rfl (h_T.g er_14) rfl) pa_nil))) (pa_cons (pe_callB (call_isA K rfl) (by rfl) B.isinstance (by decide +kernel) (pa_cons (pv 0) (pa_cons (pe_glob (v := .ref (CC 15)) rfl (h_T.g er_15) rfl) pa_nil))) (pa_cons (pe_callB (call_isA K rfl) (by rfl) B.isinstance (by decide +kernel) (pa_cons (pv 0) (pa_cons (pe_glob (v := .ref (CC 16)) rfl (h_T.g er_16) rfl) pa_nil))) pa_nil))))))
    (pss_cons (ps_set (i := 1) _law_classes_sc.nd rfl (Or.inl rfl) (pe_op op_cat (pv 1) (pe_lst (pa_cons (pe_callB (call_isA K rfl) (by rfl) B.isinstance (by decide +kernel) (pa_cons (pv 0) (pa_cons (pe_glob (v := .ref (CC 17)) rfl (h_T.g er_17) rfl) pa_nil))) (pa_cons (pe_callB (call_isA K rfl) (by rfl) B.isinstance (by decide +kernel) (pa_cons (pv 0) (pa_cons (pe_glob (v := .ref (CC 18)) rfl (h_T.g er_18) rfl) pa_nil))) (pa_cons (pe_callB (call_isA K rfl) (by rfl) B.isinstance (by decide +kernel) (pa_cons (pv 0) (pa_cons (pe_glob (v := .ref (CC 19)) rfl (h_T.g er_19) rfl) pa_nil))) pa_nil))))))
    (pss_cons (ps_set (i := 1) _law_classes_sc.nd rfl (Or.inl rfl) (pe_op op_cat (pv 1) (pe_lst (pa_cons (pe_callB (call_isA K rfl) (by rfl) B.isinstance (by decide +kernel) (pa_cons (pv 0) (pa_cons (pe_glob (v := .ref (CC 20)) rfl (h_T.g er_20) rfl) pa_nil))) (pa_cons (pe_callB (call_isA K rfl) (by rfl) B.isinstance (by decide +kernel) (pa_cons (pv 0) (pa_cons (pe_glob (v := .ref (CC 21)) rfl (h_T.g er_21) rfl) pa_nil))) (pa_cons (pe_callB (call_isA K rfl) (by rfl) B.isinstance (by decide +kernel) (pa_cons (pv 0) (pa_cons (pe_glob (v := .ref (CC 22)) rfl (h_T.g er_22) rfl) pa_nil))) pa_nil))))))
    (pss_one (ps_ret (pe_op op_cat (pv 1) (pe_lst (pa_cons (pe_callB (call_isA K rfl) (by rfl) B.isinstance (by decide +kernel) (pa_cons (pv 0) (pa_cons (pe_glob (v := .ref (CC 23)) rfl (h_T.g er_23) rfl) pa_nil))) pa_nil)))))))))))), ?_⟩
    refine q_asgD (K := K) (O := ErO CC) (i := 1) (ed_lst (eda_cons (ed_of (ev_isE (i := i) (v := v) (ed_var (i := 0) rfl (a)) (h_T.is i hi) ev_c (.own _) (h_T.kit i 0 hi (by decide))) (at_bl.mpr rfl)) (eda_cons (ed_of (ev_isE (i := i) (v := v) (ed_var (i := 0) rfl (a)) (h_T.is i hi) ev_c (.own _) (h_T.kit i 1 hi (by decide))) (at_bl.mpr rfl)) (eda_cons (ed_of (ev_isE (i := i) (v := v) (ed_var (i := 0) rfl (a)) (h_T.is i hi) ev_c (.own _) (h_T.kit i 2 hi (by decide))) (at_bl.mpr rfl)) (eda_cons (ed_of (ev_isE (i := i) (v := v) (ed_var (i := 0) rfl (a)) (h_T.is i hi) ev_c (.own _) (h_T.kit i 3 hi (by decide))) (at_bl.mpr rfl)) eda_nil)))) (by show 4 ≤ 100000; decide)) e fun v1 G1 H1 l1 a1 => ?_
    refine q_asgD (K := K) (O := ErO CC) (i := 1) (ed_cat (ed_var (i := 1) rfl a1) (ed_lst (eda_cons (ed_of (ev_isE (i := i) (v := v) (ed_var (i := 0) rfl (a.mono l1.g)) (h_T.is i hi) ev_c (.own _) (h_T.kit i 4 hi (by decide))) (at_bl.mpr rfl)) (eda_cons (ed_of (ev_isE (i := i) (v := v) (ed_var (i := 0) rfl (a.mono l1.g)) (h_T.is i hi) ev_c (.own _) (h_T.kit i 5 hi (by decide))) (at_bl.mpr rfl)) (eda_cons (ed_of (ev_isE (i := i) (v := v) (ed_var (i := 0) rfl (a.mono l1.g)) (h_T.is i hi) ev_c (.own _) (h_T.kit i 6 hi (by decide))) (at_bl.mpr rfl)) (eda_cons (ed_of (ev_isE (i := i) (v := v) (ed_var (i := 0) rfl (a.mono l1.g)) (h_T.is i hi) ev_c (.own _) (h_T.kit i 7 hi (by decide))) (at_bl.mpr rfl)) eda_nil)))) (by show 4 ≤ 100000; decide)) (by show 4 + 4 ≤ 100000; decide)) l1.e fun v2 G2 H2 m2 a2 => ?_
    have l2 := l1.trans m2
    refine q_asgD (K := K) (O := ErO CC) (i := 1) (ed_cat (ed_var (i := 1) rfl a2) (ed_lst (eda_cons (ed_of (ev_isE (i := i) (v := v) (ed_var (i := 0) rfl (a.mono l2.g)) (h_T.is i hi) ev_c (.own _) (h_T.kit i 8 hi (by decide))) (at_bl.mpr rfl)) (eda_cons (ed_of (ev_isE (i := i) (v := v) (ed_var (i := 0) rfl (a.mono l2.g)) (h_T.is i hi) ev_c (.own _) (h_T.kit i 9 hi (by decide))) (at_bl.mpr rfl)) (eda_cons (ed_of (ev_isE (i := i) (v := v) (ed_var (i := 0) rfl (a.mono l2.g)) (h_T.is i hi) ev_c (.own _) (h_T.kit i 10 hi (by decide))) (at_bl.mpr rfl)) eda_nil))) (by show 3 ≤ 100000; decide)) (by show 8 + 3 ≤ 100000; decide)) l2.e fun v3 G3 H3 m3 a3 => ?_
    have l3 := l2.trans m3
    refine q_asgD (K := K) (O := ErO CC) (i := 1) (ed_cat (ed_var (i := 1) rfl a3) (ed_lst (eda_cons (ed_of (ev_isE (i := i) (v := v) (ed_var (i := 0) rfl (a.mono l3.g)) (h_T.is i hi) ev_c (.own _) (h_T.kit i 11 hi (by decide))) (at_bl.mpr rfl)) (eda_cons (ed_of (ev_isE (i := i) (v := v) (ed_var (i := 0) rfl (a.mono l3.g)) (h_T.is i hi) ev_c (.own _) (h_T.kit i 12 hi (by decide))) (at_bl.mpr rfl)) (eda_cons (ed_of (ev_isE (i := i) (v := v) (ed_var (i := 0) rfl (a.mono l3.g)) (h_T.is i hi) ev_c (.own _) (h_T.kit i 13 hi (by decide))) (at_bl.mpr rfl)) eda_nil))) (by show 3 ≤ 100000; decide)) (by show 11 + 3 ≤ 100000; decide)) l3.e fun v4 G4 H4 m4 a4 => ?_
    have l4 := l3.trans m4
    refine q_asgD (K := K) (O := ErO CC) (i := 1) (ed_cat (ed_var (i := 1) rfl a4) (ed_lst (eda_cons (ed_of (ev_isE (i := i) (v := v) (ed_var (i := 0) rfl (a.mono l4.g)) (h_T.is i hi) ev_c (.own _) (h_T.kit i 14 hi (by decide))) (at_bl.mpr rfl)) (eda_cons (ed_of (ev_isE (i := i) (v := v) (ed_var (i := 0) rfl (a.mono l4.g)) (h_T.is i hi) ev_c (.own _) (h_T.kit i 15 hi (by decide))) (at_bl.mpr rfl)) (eda_cons (ed_of (ev_isE (i := i) (v := v) (ed_var (i := 0) rfl (a.mono l4.g)) (h_T.is i hi) ev_c (.own _) (h_T.kit i 16 hi (by decide))) (at_bl.mpr rfl)) eda_nil))) (by show 3 ≤ 100000; decide)) (by show 14 + 3 ≤ 100000; decide)) l4.e fun v5 G5 H5 m5 a5 => ?_
    have l5 := l4.trans m5
    refine q_asgD (K := K) (O := ErO CC) (i := 1) (ed_cat (ed_var (i := 1) rfl a5) (ed_lst (eda_cons (ed_of (ev_isE (i := i) (v := v) (ed_var (i := 0) rfl (a.mono l5.g)) (h_T.is i hi) ev_c (.own _) (h_T.kit i 17 hi (by decide))) (at_bl.mpr rfl)) (eda_cons (ed_of (ev_isE (i := i) (v := v) (ed_var (i := 0) rfl (a.mono l5.g)) (h_T.is i hi) ev_c (.own _) (h_T.kit i 18 hi (by decide))) (at_bl.mpr rfl)) (eda_cons (ed_of (ev_isE (i := i) (v := v) (ed_var (i := 0) rfl (a.mono l5.g)) (h_T.is i hi) ev_c (.own _) (h_T.kit i 19 hi (by decide))) (at_bl.mpr rfl)) eda_nil))) (by show 3 ≤ 100000; decide)) (by show 17 + 3 ≤ 100000; decide)) l5.e fun v6 G6 H6 m6 a6 => ?_
    have l6 := l5.trans m6
    refine q_asgD (K := K) (O := ErO CC) (i := 1) (ed_cat (ed_var (i := 1) rfl a6) (ed_lst (eda_cons (ed_of (ev_isE (i := i) (v := v) (ed_var (i := 0) rfl (a.mono l6.g)) (h_T.is i hi) ev_c (.own _) (h_T.kit i 20 hi (by decide))) (at_bl.mpr rfl)) (eda_cons (ed_of (ev_isE (i := i) (v := v) (ed_var (i := 0) rfl (a.mono l6.g)) (h_T.is i hi) ev_c (.own _) (h_T.kit i 21 hi (by decide))) (at_bl.mpr rfl)) (eda_cons (ed_of (ev_isE (i := i) (v := v) (ed_var (i := 0) rfl (a.mono l6.g)) (h_T.is i hi) ev_c (.own _) (h_T.kit i 22 hi (by decide))) (at_bl.mpr rfl)) eda_nil))) (by show 3 ≤ 100000; decide)) (by show 20 + 3 ≤ 100000; decide)) l6.e fun v7 G7 H7 m7 a7 => ?_
    have l7 := l6.trans m7
    refine rw_ret ((ed_cat (ed_var (i := 1) rfl a7) (ed_lst (eda_cons (ed_of (ev_isE (i := i) (v := v) (ed_var (i := 0) rfl (a.mono l7.g)) (h_T.is i hi) ev_c (.own _) (h_T.kit i 23 hi (by decide))) (at_bl.mpr rfl)) eda_nil) (by show 1 ≤ 100000; decide)) (by show 23 + 1 ≤ 100000; decide)) H7 l7.e _ fun v8 G8 H8 m8 a8 => ?_)
    exact k v8 G8 H8 (l7.trans m8) (by exact a8)
end
end SR
set_option maxRecDepth 100000
set_option maxHeartbeats 4000000
namespace SR
open PySem PySem.Spec PyProof.Rows L2 Evl
/-! ### the box with the place of its lesser cells told -/
structure SprR (H : Hp) (s q r : Addr) (n : Nat) : Prop where
  ex : ∃ (cells rst : List Int) (u m : Int), H s = some (.lst [.ref q, .int u, .ref r, .int m]) ∧ H q = some (.lst (cells.map V.int)) ∧ H r = some (.lst (rst.map V.int)) ∧ r ≠ s ∧ r ≠ q ∧ cells.length ≤ 63 ∧ rst.length ≤ 63 ∧ 0 ≤ m ∧ m ≤ n
theorem SprR.spr {H : Hp} {s q r : Addr} {n : Nat} (p : SprR H s q r n) : Spr H s q n := by
  obtain ⟨cells, rst, u, m, h⟩ := p.ex
  exact ⟨cells, rst, r, u, m, h⟩
theorem Spr.r {H : Hp} {s q : Addr} {n : Nat} (p : Spr H s q n) : ∃ r, SprR H s q r n := by
  obtain ⟨cells, rst, r, u, m, h⟩ := p.ex
  exact ⟨r, cells, rst, u, m, h⟩
theorem SprR.keep {s q r : Addr} {n k : Nat} {H H' : Hp} (p : SprR H s q r n) (h : ∀ a o, H a = some o → H' a = some o) (hn : n ≤ k) : SprR H' s q r k := by
  obtain ⟨cells, rst, u, m, h1, h2, h3, h4, h5, h6, h7, h8, h9⟩ := p.ex
  exact ⟨cells, rst, u, m, h _ _ h1, h _ _ h2, h _ _ h3, h4, h5, h6, h7, h8, by omega⟩
theorem SprR.rne {H : Hp} {s q r : Addr} {n : Nat} (p : SprR H s q r n) : H r ≠ none := by
  obtain ⟨cells, rst, u, m, h1, h2, h3, _⟩ := p.ex
  rw [h3]; exact fun z => nomatch z
theorem SprR.mut {H : Hp} {s q r a : Addr} {n : Nat} {o : HO} (p : SprR H s q r n) (hs : a ≠ s) (hq : a ≠ q) (hr : a ≠ r) : SprR (upd H a o) s q r n := by
  obtain ⟨cells, rst, u, m, h1, h2, h3, h4⟩ := p.ex
  exact ⟨cells, rst, u, m, by rw [upd_ne (Ne.symm hs)]; exact h1, by rw [upd_ne (Ne.symm hq)]; exact h2, by rw [upd_ne (Ne.symm hr)]; exact h3, h4⟩
def spTakeR : Sp := fun vs H Q _ => ∃ (G : Hp) (s q r : Addr) (n : Nat) (many : Int), vs = [.ref s, .int many] ∧ Ex G H ∧ G s = none ∧ G q = none ∧ SprR H s q r n ∧ n + 1 ≤ 1000000 ∧ 0 < many ∧ many < 1073741824 ∧
  ∀ (x : Int) (G2 H2 : Hp), 0 ≤ x → x < many → LeX s q G H G2 H2 → SprR H2 s q r (n + 1) → Q (.int x) H2
section
variable {P : Program} {w : World} {K : PySem.W.Frag} {mg : Str → Option Value} {base : Heap}
theorem ok_takeR {f : Addr} {fd : FuncData} (F : Fun K "_law_take" "_law_take" _law_take_S f fd) (B : Bi mg) : FnOk P w K mg base CX0 1 f fd ["_law_box_here", "_law_size"] spTakeR := by
  refine F.ok _law_take_sc (fun vs H Q E h => ?_) (fun cdv A outer s0 H vs Q E hr h => ?_)
  · obtain ⟨G, s, q, r, n, many, rfl, _⟩ := h
    rfl
  · obtain ⟨G, s, q, r, n, many, rfl, e, gs, gq, spr, hn, h0, h1, k⟩ := h
    have hu := hu_of hr
    have hsq := spr.spr.ne
    obtain ⟨cells, rst, u, m, hs, hq, hrr, hrs, hrq, hc, hc2, hm0, hmn⟩ := spr.ex
    refine ⟨_, (pss_cons (ps_asg (pe_op op_add (pe_ixLK K (pv 0) pe_int (fun _ _ => rfl)) pe_int) (pg_sub (pv 0) pe_int set_list))
    (pss_cut (ps_if (PW.pt (pw_and (pt_cmpR op_eq (pe_ixLK K (pv 0) pe_int (fun _ _ => rfl)) pe_int (nomark _)) (pw_and1 (pt_cmpR op_gt (pe_callB (call_lenK K) (by rfl) B.len (by decide +kernel) (pa_cons (pe_ixLK K (pv 0) pe_int (fun _ _ => rfl)) pa_nil)) pe_int (nomark _))))) (pss_one (ps_asg (pe_bm PySem.F.plainAttrs_list PySem.F.slot_list_pop PySem.F.type_list_pop mt_popAt (pe_ixLK K (pv 0) pe_int (fun _ _ => rfl)) (pa_cons pe_int pa_nil)) (pg_sub (pv 0) pe_int set_list))) pss_nil)
    (pss_cons (ps_if (pt_cmpR op_gt (pe_ixLK K (pv 0) pe_int (fun _ _ => rfl)) pe_int (nomark _)) (pss_cons (ps_set (i := 5) _law_take_sc.nd rfl (Or.inl rfl) (pe_op op_modN (pe_callTy call_int1 (by rfl) B.int (by decide +kernel) (pa_cons (pe_ixLK K (pv 0) pe_int (fun _ _ => rfl)) pa_nil)) (pv 1)))
    (pss_cons (ps_asg (pe_op op_fdivN (pe_ixLK K (pv 0) pe_int (fun _ _ => rfl)) (pv 1)) (pg_sub (pv 0) pe_int set_list))
    (pss_one (ps_ret (pv 5))))) pss_nil)
    (pss_cons (ps_set (i := 2) _law_take_sc.nd rfl (Or.inl rfl) (pe_ifExp (pt_cmpR (op_eqD hr.units) (pe_ixLK K (pv 0) pe_int (fun _ _ => rfl)) (pe_lst pa_nil) (nomark _)) (pe_op op_mul pe_int (pe_ixLK K (pv 0) pe_int (fun _ _ => rfl))) (pe_ixLK K (pe_ixLK K (pv 0) pe_int (fun _ _ => rfl)) (pe_op op_modN (pe_callTy call_int1 (by rfl) B.int (by decide +kernel) (pa_cons (pe_ixLK K (pv 0) pe_int (fun _ _ => rfl)) pa_nil)) (pe_callB (call_lenK K) (by rfl) B.len (by decide +kernel) (pa_cons (pe_ixLK K (pv 0) pe_int (fun _ _ => rfl)) pa_nil))) (fun _ _ => rfl))))
    (pss_cons (ps_set (i := 3) _law_take_sc.nd rfl (Or.inl rfl) (pe_op op_add (pe_op op_modN (pe_callTy call_int1 (by rfl) B.int (by decide +kernel) (pa_cons (pv 2) pa_nil)) pe_int) (pe_op op_mul (pe_op op_mul pe_int (pe_ixLK K (pv 0) pe_int (fun _ _ => rfl))) (pe_ixLK K (pv 0) pe_int (fun _ _ => rfl)))))
    (pss_cons (ps_set (i := 4) _law_take_sc.nd rfl (Or.inl rfl) (pe_op op_modN (pe_op op_pow (pe_callTy call_int1 (by rfl) B.int (by decide +kernel) (pa_cons (pe_op op_add (pe_op op_add (pv 3) (pe_op op_mul pe_int (pe_ixLK K (pv 0) pe_int (fun _ _ => rfl)))) pe_int) pa_nil)) pe_int) pe_int))
    (pss_one (ps_ret (pe_op op_modN (pe_op op_fdivN (pe_op op_modN (pe_callTy call_int1 (by rfl) B.int (by decide +kernel) (pa_cons (pe_op op_add (pe_op op_mul (pv 4) pe_int) (pe_op op_mul pe_int (pe_ixLK K (pv 0) pe_int (fun _ _ => rfl)))) pa_nil)) pe_int) pe_int) (pv 1)))))))))), ?_⟩
    refine q_setL (j := 3) (v := .int (m + 1)) hs (ev_op (ev_op (ev_var (i := 0) rfl) ev_c (rv_ixL (sq_of hs) rfl)) ev_c rv_I0) (ev_var (i := 0) rfl) ev_c (by show 3 < 4; decide) fun H1 e1 => ?_
    have l1 : LeX s q G H G (upd H1 s (.lst [.ref q, .int u, .ref r, .int (m + 1)])) := (Le.heap e e1).x.mutS gs
    have hs1 : (upd H1 s (.lst [.ref q, .int u, .ref r, .int (m + 1)])) s = some (.lst [.ref q, .int u, .ref r, .int (m + 1)]) := upd_same
    have hq1 : (upd H1 s (.lst [.ref q, .int u, .ref r, .int (m + 1)])) q = some (.lst (cells.map V.int)) := by rw [upd_ne (Ne.symm hsq)]; exact e1 q _ hq
    have hr1 : (upd H1 s (.lst [.ref q, .int u, .ref r, .int (m + 1)])) r = some (.lst (rst.map V.int)) := by rw [upd_ne hrs]; exact e1 r _ hrr
    generalize hH2 : upd H1 s (.lst [.ref q, .int u, .ref r, .int (m + 1)]) = H2 at l1 hs1 hq1 hr1
    have hH2' : (upd H1 s (.lst (([V.ref q, .int u, .ref r, .int m]).set 3 (.int (m + 1))))) = H2 := hH2
    rw [hH2']
    refine q_cut (M := fun σ' H' => σ' = [some (.ref s), some (.int many), none, none, none, none] ∧ LeX s q G H G H' ∧ ∃ (cells' : List Int) (u' : Int), H' s = some (.lst [.ref q, .int u', .ref r, .int (m + 1)]) ∧ H' q = some (.lst (cells'.map V.int)) ∧ H' r = some (.lst (rst.map V.int)) ∧ cells'.length ≤ 63) ?_ ?_
    · have t1 : Ev (tOp (rIxL K) (tVar 0) (tC (.int 1))) [some (.ref s), some (.int many), none, none, none, none] H2 (.int u) := ev_op (ev_var rfl) ev_c (rv_ixL (sq_of hs1) rfl)
      have t0 : Ev (tOp (rIxL K) (tVar 0) (tC (.int 0))) [some (.ref s), some (.int many), none, none, none, none] H2 (.ref q) := ev_op (ev_var rfl) ev_c (rv_ixL (sq_of hs1) rfl)
      have tl : Ev (tCB (fun xs H Q => ∃ p ys, xs = [V.ref p] ∧ (SqL K H p ys ∨ SqT K H p ys) ∧ Q (.int ys.length) H) (tCons (tOp (rIxL K) (tVar 0) (tC (.int 0))) tNil)) [some (.ref s), some (.int many), none, none, none, none] H2 (.int (cells.length : Int)) := fun H3 e3 Q3 k3 => t0 H3 e3 _ fun H4 e4 => ⟨q, _, rfl, Or.inl (sq_of (e4 _ _ (e3 _ _ hq1))), by rw [List.length_map]; exact k3 H4 e4⟩
      refine s_ifG (b := decide (V.int u = V.int 0) && decide ((0 : Int) < (cells.length : Int))) (et_and (et_test (ev_op t1 ev_c (rv_eq rfl))) fun _ => et_test (ev_op tl ev_c rv_I0)) (Ex.refl H2) (fun hb H3 l3 => ?_) (fun hb H3 l3 => ?_)
      · have hs3 := l3.h s _ hs1
        have hq3 := l3.h q _ hq1
        have hr3 := l3.h r _ hr1
        obtain ⟨c0, cs, rfl⟩ : ∃ c0 cs, cells = c0 :: cs := by
          cases cells with
          | nil => simp at hb
          | cons c cs => exact ⟨c, cs, rfl⟩
        have t0' : Ev (tOp (rIxL K) (tVar 0) (tC (.int 0))) [some (.ref s), some (.int many), none, none, none, none] H3 (.ref q) := ev_op (ev_var rfl) ev_c (rv_ixL (sq_of hs3) rfl)
        refine t0' H3 (Ex.refl H3) _ fun H4 e4 => ⟨Or.inl ⟨rfl, _, sq_of (e4 q _ hq3)⟩, ⟨q, _, 0, 0, .int c0, rfl, rfl, e4 q _ hq3, by decide, by decide, ?_, rfl, ?_⟩⟩
        · simp [seqIndex?]
        · have l4 : LeX s q G H G (upd H4 q (.lst ((c0 :: cs).map V.int |>.eraseIdx 0))) := ((l1.trans (Le.heap l1.e (l3.h.trans e4)).x).mutQ gq)
          have hs4 : (upd H4 q (.lst ((c0 :: cs).map V.int |>.eraseIdx 0))) s = some (.lst [.ref q, .int u, .ref r, .int (m + 1)]) := by rw [upd_ne hsq]; exact e4 s _ hs3
          have hq4 : (upd H4 q (.lst ((c0 :: cs).map V.int |>.eraseIdx 0))) q = some (.lst (cs.map V.int)) := upd_same
          have hr4 : (upd H4 q (.lst ((c0 :: cs).map V.int |>.eraseIdx 0))) r = some (.lst (rst.map V.int)) := by rw [upd_ne hrq]; exact e4 r _ hr3
          generalize hH5 : upd H4 q (.lst ((c0 :: cs).map V.int |>.eraseIdx 0)) = H5 at l4 hs4 hq4 hr4
          refine ⟨_, rfl, s, _, 1, 1, rfl, rfl, hs4, rfl, ?_⟩
          refine ⟨rfl, l4.mutS gs, cs, c0, upd_same, ?_, ?_, by simp at hc; omega⟩
          · rw [upd_ne (Ne.symm hsq)]; exact hq4
          · rw [upd_ne hrs]; exact hr4
      · exact ⟨rfl, l1.trans (Le.heap l1.e l3.h).x, cells, u, l3.h s _ hs1, l3.h q _ hq1, l3.h r _ hr1, hc⟩
    · rintro σ' H3 ⟨rfl, l3, cells', u', hs3, hq3, hr3, hc3⟩
      have t1 : Ev (tOp (rIxL K) (tVar 0) (tC (.int 1))) [some (.ref s), some (.int many), none, none, none, none] H3 (.int u') := ev_op (ev_var rfl) ev_c (rv_ixL (sq_of hs3) rfl)
      refine q_ifG (b := decide ((0 : Int) < u')) (et_test (ev_op t1 ev_c rv_I0)) (Ex.refl H3) (fun hb H4 l4 => ?_) (fun hb H4 l4 => ?_)
      · have hs4 := l4.h s _ hs3
        have hq4 := l4.h q _ hq3
        have hr4 := l4.h r _ hr3
        refine q_asgV (v := .int (u'.fmod many)) (ev_op (ev_int1 (ev_op (ev_var (i := 0) rfl) ev_c (rv_ixL (sq_of hs4) rfl))) (ev_var (i := 1) rfl) (rv_I (by omega))) (Ex.refl H4) fun H5 l5 => ?_
        have hs5 := l5.h s _ hs4
        have hq5 := l5.h q _ hq4
        have hr5 := l5.h r _ hr4
        refine q_setL (j := 1) (v := .int (u'.fdiv many)) hs5 (ev_op (ev_op (ev_var (i := 0) rfl) ev_c (rv_ixL (sq_of hs5) rfl)) (ev_var (i := 1) rfl) (rv_I ⟨by omega, by omega⟩)) (ev_var (i := 0) rfl) ev_c (by show 1 < 4; decide) fun H6 e6 => ?_
        refine s_ret (v := .int (u'.fmod many)) (ev_var (i := 5) rfl) fun H7 e7 => ?_
        have l7 := ((l3.trans (Le.heap l3.e ((l4.h.trans l5.h).trans e6)).x).mutS gs (o := .lst [.ref q, .int (u'.fdiv many), .ref r, .int (m + 1)]))
        refine k (u'.fmod many) G H7 (Int.fmod_nonneg_of_pos _ h0) (Int.fmod_lt_of_pos _ h0) (l7.trans (Le.heap l7.e e7).x) ⟨cells', rst, u'.fdiv many, m + 1, e7 s _ upd_same, ?_, ?_, hrs, hrq, hc3, hc2, by omega, by omega⟩
        · refine e7 q _ ?_
          rw [upd_ne (Ne.symm hsq)]
          exact e6 q _ hq5
        · refine e7 r _ ?_
          rw [upd_ne hrs]
          exact e6 r _ hr5
      · have hs4 := l4.h s _ hs3
        have hq4 := l4.h q _ hq3
        have hr4 := l4.h r _ hr3
        have a1 : 0 ≤ m + 1 := by omega
        have a2 : m + 1 ≤ 1000001 := by omega
        have b1 : 7919 * (m + 1) ≤ 7919 * 1000001 := by omega
        have b2 : (7919 * (m + 1)) * (m + 1) ≤ (7919 * 1000001) * 1000001 := Int.mul_le_mul b1 a2 a1 (by decide)
        have b3 : 0 ≤ (7919 * (m + 1)) * (m + 1) := Int.mul_nonneg (by omega) a1
        have t3 : ∀ {x2 x3 x4 : Option V} {H' : Hp}, H' s = some (.lst [.ref q, .int u', .ref r, .int (m + 1)]) → Ev (tOp (rIxL K) (tVar 0) (tC (.int 3))) [some (.ref s), some (.int many), x2, x3, x4, none] H' (.int (m + 1)) := fun h => ev_op (ev_var (i := 0) rfl) ev_c (rv_ixL (sq_of h) rfl)
        have t2 : Ev (tOp (rIxL K) (tVar 0) (tC (.int 2))) [some (.ref s), some (.int many), none, none, none, none] H4 (.ref r) := ev_op (ev_var (i := 0) rfl) ev_c (rv_ixL (sq_of hs4) rfl)
        have tl : Ev (tCB (fun xs H Q => ∃ p ys, xs = [V.ref p] ∧ (SqL K H p ys ∨ SqT K H p ys) ∧ Q (.int ys.length) H) (tCons (tOp (rIxL K) (tVar 0) (tC (.int 2))) tNil)) [some (.ref s), some (.int many), none, none, none, none] H4 (.int (rst.length : Int)) := fun H3 e3 Q3 k3 => t2 H3 e3 _ fun H4 e4 => ⟨r, _, rfl, Or.inl (sq_of (e4 _ _ (e3 _ _ hr4))), by rw [List.length_map]; exact k3 H4 e4⟩
        obtain ⟨cl, hcl⟩ : ∃ cl : Int, Ev (tIf (tTest (tOp (rEqD K) (tOp (rIxL K) (tVar 0) (tC (.int 2))) (tLst tNil))) (tOp (rI CMul fun i j => .int (i * j)) (tC (.int 11)) (tOp (rIxL K) (tVar 0) (tC (.int 3)))) (tOp (rIxL K) (tOp (rIxL K) (tVar 0) (tC (.int 2))) (tOp (rI (fun _ j => j ≠ 0) fun i j => .int (i.fmod j)) (tCB (fun xs H Q => (∃ i, xs = [V.int i] ∧ Q (.int i) H) ∨ ∃ k, xs = [V.bl k] ∧ Q (.int (if k then 1 else 0)) H) (tCons (tOp (rIxL K) (tVar 0) (tC (.int 3))) tNil)) (tCB (fun xs H Q => ∃ p ys, xs = [V.ref p] ∧ (SqL K H p ys ∨ SqT K H p ys) ∧ Q (.int ys.length) H) (tCons (tOp (rIxL K) (tVar 0) (tC (.int 2))) tNil))))) [some (.ref s), some (.int many), none, none, none, none] H4 (.int cl) := by
          cases hrst : rst with
          | nil =>
            refine ⟨11 * (m + 1), ev_if (b := true) (et_test (ev_is (ev_eqNilI t2 hr4) (by rw [hrst]; rfl))) (fun _ => ev_op ev_c (t3 hs4) (rv_I (Or.inl (by decide)))) (fun z => nomatch z)⟩
          | cons c0 cs =>
            have hl : 0 < (rst.length : Int) := by rw [hrst]; simp
            obtain ⟨c1, hc1⟩ := atI_int (cells := rst) (i := (m + 1).fmod (rst.length : Int)) (Int.fmod_nonneg_of_pos _ hl) (Int.fmod_lt_of_pos _ hl)
            exact ⟨c1, ev_if (b := false) (et_test (ev_is (ev_eqNilI t2 hr4) (by rw [hrst]; rfl))) (fun z => nomatch z) fun _ => ev_op t2 (ev_op (ev_int1 (t3 hs4)) tl (rv_I (by omega))) (rv_ixL (sq_of hr4) hc1)⟩
        refine q_asgV (v := .int cl) hcl (Ex.refl H4) fun H5 l5 => ?_
        have hs5 := l5.h s _ hs4
        have hq5 := l5.h q _ hq4
        have hr5 := l5.h r _ hr4
        have C0 : 0 ≤ cl.fmod 2147483647 := Int.fmod_nonneg_of_pos _ (by decide)
        have C1 : cl.fmod 2147483647 < 2147483647 := Int.fmod_lt_of_pos _ (by decide)
        refine q_asgV (v := .int (cl.fmod 2147483647 + (7919 * (m + 1)) * (m + 1))) (ev_op (ev_op (ev_int1 (ev_var (i := 2) rfl)) ev_c (rv_I (by decide))) (ev_op (ev_op ev_c (t3 hs5) (rv_I (Or.inl (by decide)))) (t3 hs5) (rv_I (Or.inl (by omega)))) rv_I0) (Ex.refl H5) fun H6 l6 => ?_
        have hs6 := l6.h s _ hs5
        have hq6 := l6.h q _ hq5
        have hr6 := l6.h r _ hr5
        generalize cl.fmod 2147483647 = C at C0 C1
        generalize hZ : (7919 * (m + 1)) * (m + 1) = Z at b2 b3
        have M0 : 0 ≤ ((C + Z + 104729 * (m + 1) + 5) ^ (5 : Int).toNat).fmod 2147483629 := Int.fmod_nonneg_of_pos _ (by decide)
        have M1 : ((C + Z + 104729 * (m + 1) + 5) ^ (5 : Int).toNat).fmod 2147483629 < 2147483629 := Int.fmod_lt_of_pos _ (by decide)
        refine q_asgV (v := .int (((C + Z + 104729 * (m + 1) + 5) ^ (5 : Int).toNat).fmod 2147483629)) (ev_op (ev_op (ev_int1 (ev_op (ev_op (ev_var (i := 3) rfl) (ev_op ev_c (t3 hs6) (rv_I (Or.inl (by decide)))) rv_I0) ev_c rv_I0)) ev_c (rv_I ⟨by decide, by decide, by omega⟩)) ev_c (rv_I (by decide))) (Ex.refl H6) fun H7 l7 => ?_
        generalize ((C + Z + 104729 * (m + 1) + 5) ^ (5 : Int).toNat).fmod 2147483629 = M at M0 M1
        have hs7 := l7.h s _ hs6
        refine s_ret (v := .int ((((M * 40692 + 6151 * (m + 1)).fmod 1000000007).fdiv 3).fmod many)) (ev_op (ev_op (ev_op (ev_int1 (ev_op (ev_op (ev_var (i := 4) rfl) ev_c (rv_I (Or.inl (by omega)))) (ev_op ev_c (t3 hs7) (rv_I (Or.inl (by decide)))) rv_I0)) ev_c (rv_I (by decide))) ev_c (rv_I ⟨by decide, by decide⟩)) (ev_var (i := 1) rfl) (rv_I (by omega))) fun H8 e8 => ?_
        have hh := (((l4.h.trans l5.h).trans l6.h).trans l7.h).trans e8
        exact k _ G H8 (Int.fmod_nonneg_of_pos _ h0) (Int.fmod_lt_of_pos _ h0) (l3.trans (Le.heap l3.e hh).x) ⟨cells', rst, u', m + 1, hh s _ hs3, hh q _ hq3, hh r _ hr3, hrs, hrq, hc3, hc2, by omega, by omega⟩
end
end SR
set_option maxRecDepth 100000
set_option maxHeartbeats 4000000
namespace SR
open PySem PySem.Spec PyProof.Rows L2 Evl
/-! ### lists taken from, dropped, repeated (as K1lz and K1sxy have them, for laws with the box) -/
section
variable {ω : Type} {K : PySem.W.Frag} {O : OI ω} {G H : Hp} {te tl th : TE} {σ : L2.St}
theorem atL_take : ∀ {l : List (D ω)} {vs : List V} {n : Nat}, AtL K O G l vs → AtL K O G (l.take n) (vs.take n)
  | [], vs, n, h => by
    rw [atL_nil.mp h]
    cases n <;> exact atL_nil.mpr rfl
  | d :: l, vs, 0, h => atL_nil.mpr rfl
  | d :: l, vs, n + 1, h => by
    obtain ⟨v, r, rfl, a, m⟩ := atL_cons.mp h
    exact atL_cons.mpr ⟨v, _, rfl, a, atL_take m⟩
theorem atL_drop : ∀ {l : List (D ω)} {vs : List V} {n : Nat}, AtL K O G l vs → AtL K O G (l.drop n) (vs.drop n)
  | [], vs, n, h => by
    rw [atL_nil.mp h]
    cases n <;> exact atL_nil.mpr rfl
  | d :: l, vs, 0, h => h
  | d :: l, vs, n + 1, h => by
    obtain ⟨v, r, rfl, a, m⟩ := atL_cons.mp h
    exact atL_drop (l := l) (n := n) m
theorem ed_takeZ {ds : List (D ω)} {hi : Nat} (h : EvD K O te σ G (.lst ds)) (hh : Ev th σ G (.int (hi : Int))) : EvD K O (tSl (rSlL K) te tNoPart (tPart th)) σ G (.lst (ds.take hi)) := fun H1 e Q k =>
  h H1 e _ fun v G2 H2 l a => hh H2 (e.trans l.h) _ fun H4 e4 => ⟨_, rfl, by
    obtain ⟨p, vs, rfl, hp, as⟩ := at_lst.mp a
    refine ⟨p, vs, rfl, sq_of (e4 _ _ (l.e _ _ hp)), fun q hq => ?_⟩
    have hn : vs.length = ds.length := as.len
    have hc : cutV vs none (some (hi : Int)) = vs.take hi := by
      unfold cutV
      rw [HT.sIx_nat, HT.sIx_none, Nat.sub_zero, List.drop_zero]
      rcases Nat.le_total hi vs.length with q | q
      · rw [Nat.min_eq_left q]
      · rw [Nat.min_eq_right q, List.take_length, List.take_of_length_le q]
    rw [hc]
    have l4 : Le G H1 G2 H4 := l.trans (Le.heap l.e e4)
    exact k (.ref q) (upd G2 q (.lst _)) _ (l4.trans (Le.new l4.e hq)) (at_lst.mpr ⟨q, _, rfl, upd_same, (atL_take as).mono (Ex.new (none_of_ex l4.e hq))⟩)⟩
theorem ed_dropZ {ds : List (D ω)} {lo : Nat} (h : EvD K O te σ G (.lst ds)) (hl : Ev tl σ G (.int (lo : Int))) : EvD K O (tSl (rSlL K) te (tPart tl) tNoPart) σ G (.lst (ds.drop lo)) := fun H1 e Q k =>
  h H1 e _ fun v G2 H2 l a => hl H2 (e.trans l.h) _ fun H4 e4 => ⟨_, rfl, by
    obtain ⟨p, vs, rfl, hp, as⟩ := at_lst.mp a
    refine ⟨p, vs, rfl, sq_of (e4 _ _ (l.e _ _ hp)), fun q hq => ?_⟩
    have hn : vs.length = ds.length := as.len
    have hc : cutV vs (some (lo : Int)) none = vs.drop lo := by
      unfold cutV
      rw [HT.sIx_nat, HT.sIx_none]
      rcases Nat.le_total lo vs.length with q | q
      · rw [Nat.min_eq_left q]
        exact List.take_of_length_le (by rw [List.length_drop]; exact Nat.le_refl _)
      · rw [Nat.min_eq_right q, Nat.sub_self, List.take_zero, List.drop_eq_nil_of_le q]
    rw [hc]
    have l4 : Le G H1 G2 H4 := l.trans (Le.heap l.e e4)
    exact k (.ref q) (upd G2 q (.lst _)) _ (l4.trans (Le.new l4.e hq)) (at_lst.mpr ⟨q, _, rfl, upd_same, (atL_drop as).mono (Ex.new (none_of_ex l4.e hq))⟩)⟩
end
section
variable {K : PySem.W.Frag}
theorem flat_rep {α : Type} {x : α} : ∀ n, (List.replicate n [x]).flatten = List.replicate n x
  | 0 => rfl
  | n + 1 => by rw [List.replicate_succ, List.flatten_cons, flat_rep n]; rfl
/-- a list of objects, so many times -/
theorem ed_repL {ω : Type} {O : OI ω} {G : Hp} {ta tb : TE} {σ : L2.St} {d : D ω} {n : Nat} (h1 : EvD K O ta σ G (.lst [d])) (h2 : Ev tb σ G (.int (n : Int))) (hn : n ≤ 1000) : EvD K O (tOp rRep ta tb) σ G (.lst (List.replicate n d)) := fun H1 e Q k =>
  h1 H1 e _ fun v G2 H2 l a => h2 H2 (e.trans l.h) _ fun H3 e3 => by
    obtain ⟨p, vs, rfl, hs, as⟩ := at_lst.mp a
    obtain ⟨x, r, rfl, ax, n1⟩ := atL_cons.mp as
    obtain rfl := atL_nil.mp n1
    have l3 : Le G H1 G2 H3 := l.trans (Le.heap l.e e3)
    refine ⟨p, (n : Int), [x], rfl, rfl, l3.e _ _ hs, by omega, by omega, by rw [Int.toNat_natCast, List.length_singleton, Nat.one_mul]; exact sz_of (by omega), fun q hq => ?_⟩
    rw [Int.toNat_natCast]
    have e9 : (List.replicate n [x]).flatten = List.replicate n x := flat_rep n
    rw [e9]
    have ar : ∀ m, AtL K O G2 (List.replicate m d) (List.replicate m x) := fun m => by
      induction m with
      | zero => exact atL_nil.mpr rfl
      | succ m ih => exact atL_cons.mpr ⟨x, _, rfl, ax, ih⟩
    exact k (.ref q) (upd G2 q (.lst _)) _ (l3.trans (Le.new l3.e hq)) (at_lst.mpr ⟨q, _, rfl, upd_same, (ar n).mono (Ex.new (none_of_ex l3.e hq))⟩)
end
end SR
set_option maxRecDepth 100000
set_option maxHeartbeats 4000000
namespace SR
open PySem PySem.Spec PyProof.Rows L2 Evl
section
variable {ω : Type} {K : PySem.W.Frag} {O : OI ω} {G H : Hp} {te : TE} {σ : L2.St}
/-- two fors, no tests -/
theorem ed_lc2 {wi wi1 : TI} {g g1 : TG} {vs vs1 : List Nat} {ds es : List (D ω)} (m : D ω → D ω → D ω) (hs : Src K O wi σ G ds) (hz : ds.length * es.length ≤ 40000)
    (body : ∀ (i : Nat) (d : D ω) (x : V) (Gi Hi : Hp), ds[i]? = some d → Ex G Gi → Ex Gi Hi → At K O Gi d x → ∀ Q : L2.St → Hp → Prop,
      (∀ σ2 H2, Ex Hi H2 → wipe σ2 vs = wipe σ vs → Src K O wi1 σ2 Gi es →
        (∀ (j : Nat) (c : D ω) (y : V) (Gj Hj : Hp), es[j]? = some c → Ex Gi Gj → Ex Gj Hj → At K O Gj c y → ∀ Q' : L2.St → Hp → Prop,
          (∀ σ3 H3, Ex Hj H3 → wipe σ3 vs1 = wipe σ2 vs1 → EvD K O te σ3 Gj (m d c) → Q' σ3 H3) → g1 y (wipe σ2 vs1) Hj Q') → Q σ2 H2) → g x (wipe σ vs) Hi Q) :
    EvD K O (tLc2 wi g tYes wi1 g1 tYes te vs vs1) σ G (.lst (ds.flatMap fun d => es.map (m d))) := fun H1 e Q k => by
  refine hs H1 e _ fun J Gd Y G0 H0 l0 w hG yl => ?_
  intro Dl hD
  refine ⟨fun i n H => n = ds.length - i ∧ i ≤ ds.length ∧ ∃ Gi us, Le G0 H0 Gi H ∧ H Dl = some (.lst us) ∧ Gi Dl = none ∧ AtL K O Gi ((ds.take i).flatMap fun d => es.map (m d)) us, ⟨ds.length, by omega, Nat.zero_le _, G0, [], Le.newM l0.e hD, upd_same, none_of_ex l0.e hD, atL_nil.mpr rfl⟩, ?_⟩
  rintro i n H ⟨rfl, hi, Gi, us, l, hu, gn, as⟩
  have q := hG H (l.g.trans l.e)
  by_cases hlt : i < ds.length
  · refine .inr ⟨w.goes i H hlt q, fun H => ∃ Gi us, Le G0 H0 Gi H ∧ H Dl = some (.lst us) ∧ Gi Dl = none ∧ AtL K O Gi ((ds.take (i + 1)).flatMap fun d => es.map (m d)) us, fun H' p' => ⟨ds.length - (i + 1), by omega, rfl, hlt, p'⟩, fun x Hx yx => ?_⟩
    obtain ⟨d, Gi', hd, l', ad⟩ := yl i Gi H x Hx l.g l.e hlt (w.yields i H x Hx hlt q yx)
    have tk := take_snoc hd
    have gn' : Gi' Dl = none := l'.gnone gn (by rw [hu]; exact fun z => nomatch z)
    have hu' : Hx Dl = some (.lst us) := l'.h Dl _ hu
    have lt : Le G0 H0 Gi' Hx := l.trans l'
    refine body i d x Gi' Hx hd (l0.g.trans lt.g) l'.e ad _ fun σ2 H20 e20 hw hs1 hb1 => ⟨hw, ?_⟩
    refine et_yes (G := Gi') H20 (l'.e.trans e20) _ fun H2 e21 => ?_
    have e2 := e20.trans e21
    rw [if_pos rfl]
    refine hs1 H2 (l'.e.trans e2) _ fun J1 Gd1 Y1 G3 H3 l3 w1 hG1 yl1 => ?_
    have gn3 : G3 Dl = none := l3.gnone gn' (by rw [e2 Dl _ hu']; exact fun z => nomatch z)
    have hu3 : H3 Dl = some (.lst us) := l3.h Dl _ (e2 Dl _ hu')
    have lt3 : Le G0 H0 G3 H3 := (lt.trans (Le.heap l'.e e2)).trans l3
    refine ⟨fun j n H => n = es.length - j ∧ j ≤ es.length ∧ ∃ Gj us, Le G0 H0 Gj H ∧ Ex G3 Gj ∧ H Dl = some (.lst us) ∧ Gj Dl = none ∧ AtL K O Gj (((ds.take i).flatMap fun d => es.map (m d)) ++ (es.take j).map (m d)) us, ⟨es.length, by omega, Nat.zero_le _, G3, us, lt3, Ex.refl _, hu3, gn3, by rw [List.take_zero, List.map_nil, List.append_nil]; exact as.mono (l'.g.trans l3.g)⟩, ?_⟩
    rintro j n H ⟨rfl, hj, Gj, us1, lj, ej, huj, gnj, asj⟩
    have qj := hG1 H (ej.trans lj.e)
    by_cases hjl : j < es.length
    · refine .inr ⟨w1.goes j H hjl qj, fun H => ∃ Gj us, Le G0 H0 Gj H ∧ Ex G3 Gj ∧ H Dl = some (.lst us) ∧ Gj Dl = none ∧ AtL K O Gj (((ds.take i).flatMap fun d => es.map (m d)) ++ (es.take (j + 1)).map (m d)) us, fun H' p' => ⟨es.length - (j + 1), by omega, rfl, hjl, p'⟩, fun y Hy yy => ?_⟩
      obtain ⟨c, Gj', hc, lj', ac⟩ := yl1 j Gj H y Hy ej lj.e hjl (w1.yields j H y Hy hjl qj yy)
      have gnj' : Gj' Dl = none := lj'.gnone gnj (by rw [huj]; exact fun z => nomatch z)
      have huj' : Hy Dl = some (.lst us1) := lj'.h Dl _ huj
      have ltj : Le G0 H0 Gj' Hy := lj.trans lj'
      refine hb1 j c y Gj' Hy hc ((l3.g.trans ej).trans lj'.g) lj'.e ac _ fun σ3 H50 e50 hw1 he => ⟨hw1, ?_⟩
      refine et_yes (G := Gj') H50 (lj'.e.trans e50) _ fun H5 e51 => ?_
      have e5 := e50.trans e51
      rw [if_pos rfl]
      refine he H5 (lj'.e.trans e5) _ fun u G6 H6 l6 a6 => ?_
      have hu6 : H6 Dl = some (.lst us1) := l6.h Dl _ (e5 Dl _ huj')
      have gn6 : G6 Dl = none := l6.gnone gnj' (by rw [e5 Dl _ huj']; exact fun z => nomatch z)
      have ul : us1.length < 40000 := by
        have h1 := asj.len
        have h2 : ∀ l : List (D ω), (l.flatMap fun d => es.map (m d)).length = l.length * es.length := fun l => by
          induction l with
          | nil => exact (Nat.zero_mul _).symm
          | cons a l ih => rw [List.flatMap_cons, List.length_append, ih, List.length_cons, List.length_map, Nat.succ_mul]; omega
        rw [List.length_append, h2, List.length_map, List.length_take, List.length_take] at h1
        have h3 : (i + 1) * es.length ≤ ds.length * es.length := Nat.mul_le_mul_right _ (by omega)
        rw [Nat.succ_mul] at h3
        have h4 : min i ds.length = i := by omega
        rw [h4] at h1
        omega
      refine ⟨us1, hu6, sz_lt (by omega), G6, us1 ++ [u], ((ltj.trans (Le.heap lj'.e e5)).trans l6).mut hD gn6, (ej.trans lj'.g).trans l6.g, upd_same, gn6, ?_⟩
      rw [take_snoc hc, List.map_append, ← List.append_assoc]
      exact (asj.mono (lj'.g.trans l6.g)).app (AtL.one a6)
    · have e4 : j = es.length := by omega
      subst e4
      refine .inl ⟨w1.stops H qj, Gj, us1, lj, huj, gnj, ?_⟩
      rw [tk, List.flatMap_append, List.flatMap_cons, List.flatMap_nil, List.append_nil]
      rw [List.take_length] at asj
      exact asj
  · have e4 : i = ds.length := by omega
    subst e4
    refine .inl ⟨w.stops H q, ?_⟩
    rw [List.take_length] at as
    exact k (.ref Dl) (upd Gi Dl (.lst us)) H (l0.trans (Le.fix l0.e l hD hu)) (at_lst.mpr ⟨Dl, us, rfl, upd_same, as.mono (Ex.new gn)⟩)
end
section
variable {X : Cx} {tg e : Expr} {te : TE}
theorem pi_tupK (K : PySem.W.Frag) (h : PE X e te) (hK : X.K = K := by rfl) : PI X tg e (iTup K te) := by
  subst hK
  exact pi_tup h
theorem pi_listK (K : PySem.W.Frag) (h : PE X e te) (hK : X.K = K := by rfl) : PI X tg e (iList K te) := by
  subst hK
  exact pi_list h
end
end SR
set_option maxRecDepth 100000
set_option maxHeartbeats 8000000
namespace SR
open PySem PySem.Spec PyProof.Rows L2 Evl
section
variable {P : Program} {w : World} {K : PySem.W.Frag} {mg : Str → Option Value} {base : Heap} {CC : Nat → Addr} {CS : Addr} {ω : Type} {O : OI ω}
/-- one of the things of a list, with its place -/
def spPickV : Sp := fun vs H Q _ => ∃ (G : Hp) (s q r : Addr) (n : Nat) (l : Addr) (us : List V), vs = [.ref s, .ref l] ∧ Ex G H ∧ G s = none ∧ G q = none ∧ SprR H s q r n ∧ n + 1 ≤ 1000000 ∧ G l = some (.lst us) ∧ 0 < us.length ∧ us.length ≤ 1000 ∧
  ∀ (i : Nat) (x : V) (G2 H2 : Hp), us[i]? = some x → LeX s q G H G2 H2 → SprR H2 s q r (n + 1) → Q x H2
theorem ok_pickV {f : Addr} {fd : FuncData} (F : Fun K "_law_pick" "_law_pick" _law_pick_S f fd) (B : Bi mg) (h__law_take : DefOk P w K mg base 1 "_law_take" ["_law_box_here", "_law_size"] spTakeR) : FnOk P w K mg base CX0 2 f fd ["_law_box_here", "_law_things"] spPickV := by
  refine F.ok _law_pick_sc (fun vs H Q E h => ?_) (fun cdv A outer s0 H vs Q E hr h => ?_)
  · obtain ⟨G, s, q, r, n, l, us, rfl, _⟩ := h
    rfl
  · obtain ⟨G, s, q, r, n, l, us, rfl, e, gs, gq, spr, hn, hl, h0, h1, k⟩ := h
    refine ⟨_, (pss_one (ps_ret (pe_ixLK K (pv 1) (pe_callD h__law_take (hr.mono (by first | decide | exact Nat.le_refl _)) (pa_cons (pv 0) (pa_cons (pe_callB (call_lenK K) (by rfl) B.len (by decide +kernel) (pa_cons (pv 1) pa_nil)) pa_nil))) (fun _ _ => rfl)))), ?_⟩
    have hlen : Ev (tCB (fun xs H Q => ∃ p ys, xs = [V.ref p] ∧ (SqL K H p ys ∨ SqT K H p ys) ∧ Q (.int ys.length) H) (tCons (tVar 1) tNil)) [some (.ref s), some (.ref l)] G (.int (us.length : Int)) := fun H1 e1 Q1 q1 => ⟨.ref l, rfl, l, us, rfl, .inl (sq_of (e1 _ _ hl)), q1 H1 (Ex.refl _)⟩
    refine ⟨.ref l, rfl, rw_call (rw_cons (rw_var (i := 0) rfl (rw_cons (hlen H e _ fun H2 e2 => rw_nil ⟨G, s, q, r, n, (us.length : Int), rfl, e.trans e2, gs, gq, spr.keep e2 (Nat.le_refl _), hn, by omega, by omega, fun x G3 H3 hx0 hx1 l2 sp2 => ?_⟩))))⟩
    have hxn : x.toNat < us.length := by omega
    have hu1 := List.getElem?_eq_getElem hxn
    refine ⟨l, us, x, us[x.toNat], rfl, rfl, sq_of ((l2.g.trans l2.e) _ _ hl), ?_, k _ _ G3 H3 hu1 ((Le.heap e e2).x.trans l2) sp2⟩
    have h3 := atI_nat hu1
    rwa [show ((x.toNat : Nat) : Int) = x by omega] at h3
theorem wipe_set {σ : L2.St} {k : Nat} {x : V} : wipe ((wipe σ [k]).set k (some x)) [k] = wipe σ [k] := by
  show ((σ.set k none).set k (some x)).set k none = σ.set k none
  rw [List.set_set, List.set_set]
/-- isinstance of data that is no object -/
theorem tyN {H : Hp} {d : D ω} {v : V} (hd : ∀ w, d ≠ .obj w) (h : At K O H d v) : TyX K H v (tyD (fun _ => .none) d) := by
  cases d with
  | non => rw [at_non] at h; subst h; exact .base .non
  | bl b => rw [at_bl] at h; subst h; exact .base (.bl b)
  | int i => rw [at_int] at h; subst h; exact .base (.int i)
  | str x => rw [at_str] at h; subst h; exact .base (.str x)
  | lst l => obtain ⟨a, vs, rfl, h2, _⟩ := at_lst.mp h; exact tyL (sq_of h2)
  | tup l => obtain ⟨a, vs, rfl, h2, _⟩ := at_tup.mp h; exact tyT h2
  | dic m => obtain ⟨a, rfl, h2⟩ := at_dic.mp h; exact .base (.dK h2)
  | obj w => exact absurd rfl (hd w)
theorem kitN {d : D ω} (hd : ∀ w, d ≠ .obj w) : PySem.W.kitOne K (tyD (fun _ => .none) d) (.type "list") = some (dLst d) := by
  cases d with
  | obj w => exact absurd rfl (hd w)
  | _ => first | exact kit_ty (r := false) (by decide +kernel) | exact kit_ty (r := true) (by decide +kernel)
theorem isA_list {G : Hp} {te : TE} {σ : L2.St} {d : D ω} (hd : ∀ w, d ≠ .obj w) (h : EvD K O te σ G d) : Ev (tCB (rIsA K) (tCons te (tCons (tC (.ty "list")) tNil))) σ G (.bl (dLst d)) := fun H1 e Q q =>
  h H1 e _ fun v G2 H2 l a => .inl ⟨v, .ty "list", _, _, _, rfl, .ty _, tyN hd (a.mono l.e), kitN hd, q H2 l.h⟩
/-- what the law's thing is -/
structure ThingD (x : V) (pa : Addr) (d : D ErS) : Prop where
  sh : Shown d
  no : ∀ w, d ≠ .obj w
  ls : dLst d = true → d = .lst [] ∧ x = .ref pa
theorem thing_c {x : V} {pa : Addr} {d : D ErS} (f : (noObj d = true ∧ showP d = toP d) ∨ d = .dic []) (s : (showP d).showable = true) (h : (showP d).hasDict = true → showP d = .dict []) (dd : (showP d).depth ≤ 100) (z : (showP d).shown.length ≤ sizeLine) (no : ∀ w, d ≠ .obj w) (ls : dLst d = true → d = .lst [] ∧ x = .ref pa) : ThingD x pa d := ⟨⟨f, s, h, dd, z⟩, no, ls⟩
theorem int_shown {z : Int} (h0 : 0 ≤ z) (h1 : z < 1000) : z.natAbs.log2 < 1920 := by
  have h2 : z.natAbs < 1000 := by omega
  by_cases h3 : z.natAbs = 0
  · rw [h3]; decide
  · have := (Nat.log2_lt h3).mpr (show z.natAbs < 2 ^ 10 by omega)
    omega
/-- the errors of the law's list, by place -/
theorem all_get {v : V} {i : Nat} {d : D ErS} (h : (ersL 10 v ++ ers0 10 14)[i]? = some d) : i < 24 ∧ ∃ u, d = .obj (i, u) := by
  have hi : i < 24 := by
    have := (List.getElem?_eq_some_iff.mp h).1
    simpa [ersL, ers0] using this
  refine ⟨hi, ?_⟩
  by_cases h1 : i < 10
  · rw [List.getElem?_append_left (by simp [ersL]; exact h1)] at h
    simp only [ersL, List.getElem?_map, List.getElem?_range h1, Option.map_some] at h
    exact ⟨v, (Option.some.inj h).symm⟩
  · rw [List.getElem?_append_right (by simp [ersL]; omega)] at h
    have e9 : (ersL 10 v).length = 10 := by simp [ersL]
    rw [e9] at h
    simp only [ers0, List.getElem?_map, List.getElem?_range (show i - 10 < 14 by omega), Option.map_some] at h
    refine ⟨V.non, ?_⟩
    rw [← Option.some.inj h, show 10 + (i - 10) = i by omega]
def eqAt (i : Nat) : D ErS → D ErS
  | .int n => .bl (decide (n = (i : Int)))
  | _ => .non
theorem row_eq : ∀ i, i < 24 → PyData.eqv (toP (ω := ErS) (.lst ((List.range 24).map fun k => .bl (decide (i = k))))) (toP (ω := ErS) (.lst (((rngD 0 24).filter fun _ => true).map (eqAt i)))) = true := by decide +kernel
theorem row_ok1 : ∀ i, i < 24 → noObj (ω := ErS) (.lst ((List.range 24).map fun k => .bl (decide (i = k)))) = true ∧ SeqAt.shaped (toP (ω := ErS) (.lst ((List.range 24).map fun k => .bl (decide (i = k))))) = true := by decide +kernel
theorem row_ok2 : ∀ i, i < 24 → noObj (ω := ErS) (.lst (((rngD 0 24).filter fun _ => true).map (eqAt i))) = true ∧ SeqAt.shaped (toP (ω := ErS) (.lst (((rngD 0 24).filter fun _ => true).map (eqAt i)))) = true := by decide +kernel
theorem more_eq : PyData.eqv (toP (ω := ErS) (.lst (List.replicate 10 (.lst [.str "more"]) ++ List.replicate 10 (.lst [.str "more"])))) (toP (ω := ErS) (.lst (List.replicate 20 (.lst [.str "more"])))) = true := by decide +kernel
/-- a list of errors stays where an empty list's cell changes -/
theorem at_keep {CC : Nat → Addr} {G : Hp} {pa : Addr} {us : List V} (hp : G pa = some (.lst [])) : ∀ {l : List (D ErS)} {vs : List V}, (∀ d ∈ l, ∃ w, d = .obj w) → AtL K (ErO CC) G l vs → AtL K (ErO CC) (upd G pa (.lst us)) l vs
  | [], vs, _, h => atL_nil.mpr (atL_nil.mp h)
  | d :: l, vs, hd, h => by
    obtain ⟨v, r, rfl, h1, h2⟩ := atL_cons.mp h
    obtain ⟨w, rfl⟩ := hd d (List.mem_cons_self ..)
    obtain ⟨a, rfl, x, of, hx, hh⟩ := at_obj.mp h1
    have ne1 : ∀ {b e C : Addr} {dd : Option Addr}, G b = some (exo e C dd) → b ≠ pa := fun {b e C dd} e1 z => by
      rw [z, hp] at e1
      have e2 := Option.some.inj e1
      cases e2
    have ne2 : ∀ {b e : Addr} {fs : List (Str × V)}, G b = some (exd e fs) → b ≠ pa := fun {b e fs} e1 z => by
      rw [z, hp] at e1
      have e2 := Option.some.inj e1
      cases e2
    refine atL_cons.mpr ⟨.ref a, r, rfl, at_obj.mpr ⟨a, rfl, x, of, hx, ?_⟩, at_keep hp (fun d hm => hd d (List.mem_cons_of_mem _ hm)) h2⟩
    rcases hh with ⟨h3, h4⟩ | ⟨f, dx, h3, h4, h5⟩
    · exact .inl ⟨h3, by rw [upd_ne (ne1 h4)]; exact h4⟩
    · exact .inr ⟨f, dx, h3, by rw [upd_ne (ne1 h4)]; exact h4, by rw [upd_ne (ne2 h5)]; exact h5⟩
theorem ev_fields {G : Hp} {te : TE} {σ : L2.St} {x : V} {d : D ErS} {E : XK} (h : EvD K (ErO CC) te σ G (.lst (ersL 10 x))) (a : At K (ErO CC) G d x) : EvD K (ErO CC) (tCall (spFields K CC) [] E (tCons te tNil)) σ G (.lst (List.replicate 10 d)) := fun H e Q k =>
  h H e _ fun v G2 H2 l a2 => ⟨G2, v, x, d, rfl, l.e, a2, a.mono l.g, k.mono l⟩
theorem plain_call {G : Hp} {σ : L2.St} {E : XK} : EvD K (ErO CC) (tCall (SpD K (ErO CC) rPlain) [] E tNil) σ G (.lst (ers0 10 14)) := ed_call eda_nil ⟨rfl, rfl⟩
theorem take_all {v : V} : (ersL 10 v ++ ersL 10 v).take 10 = ersL 10 v := rfl
theorem drop_all {v : V} : (ersL 10 v ++ ersL 10 v).drop 10 = ersL 10 v := rfl
theorem rep_bl {α : Type} {l : List α} {b : Bool} : (l.map fun _ => D.bl (ω := ErS) b) = (List.replicate l.length b).map D.bl := by
  rw [List.map_replicate]
  exact List.map_const'
abbrev S11 (x0 x1 x2 x3 x4 x5 x6 x7 x8 x9 x10 : Option V) : L2.St := [x0, x1, x2, x3, x4, x5, x6, x7, x8, x9, x10]
def spLaw27 (K : PySem.W.Frag) : Sp := fun vs H Q _ => ∃ (a : Addr) (ns : List Int), vs = [.ref a] ∧ SqL K H a (ns.map V.int) ∧ ns.length ≤ 63 ∧ ∀ H', Q (.bl true) H'
abbrev law_S : Stmt := topS 34
abbrev law_N : List Str := ["_law_script", "_law_box_here", "_law_turn", "_law_things", "_law_thing", "_law_made", "_law_some", "_law_at", "_law_e", "_law_k", "_law_kept"]
theorem law_sc : FnScope law_N ["_law_script"] (defScope law_S) := ⟨rfl, rfl, rfl, by decide +kernel, rfl, by decide +kernel, by decide +kernel⟩
theorem ok_law {f : Addr} {fd : FuncData} (F : Fun K "law" "law" law_S f fd) (B : Bi mg) (h_T : ErAll P w K mg base CC CS) (hRp : mg "repr" = none) (hVE : mg "ValueError" = none)
    (h__law_box : DefOk P w K mg base 1 "_law_box" ["_law_script"] (spSpring K)) (h__law_take : DefOk P w K mg base 1 "_law_take" ["_law_box_here", "_law_size"] spTakeR) (h__law_pick : DefOk P w K mg base 2 "_law_pick" ["_law_box_here", "_law_things"] spPickV)
    (h__law_with_fields : DefOk P w K mg base 3 "_law_with_fields" ["_law_thing"] (spWith K CC)) (h__law_fields : DefOk P w K mg base 3 "_law_fields" ["_law_e"] (spFields K CC)) (h__law_plain_ones : DefOk P w K mg base 3 "_law_plain_ones" [] (SpD K (ErO CC) rPlain)) (h__law_classes : DefOk P w K mg base 3 "_law_classes" ["_law_e"] (SpD K (ErO CC) rClasses)) :
    FnG P w K mg base CX0 7 f fd ["_law_script"] (spLaw27 K) := by
  refine Fun.okG F law_sc (fun vs H Q E h => ?_) (fun cdv A hgd outer s0 H vs Q E hr h => ?_)
  · obtain ⟨a, ns, rfl, _⟩ := h
    rfl
  · obtain ⟨a, ns, rfl, hsq, hns, k⟩ := h
    refine ⟨_, (pss_cons (ps_set (i := 1) law_sc.nd rfl (Or.inl rfl) (pe_callD h__law_box (hr.mono (by first | decide | exact Nat.le_refl _)) (pa_cons (pv 0) pa_nil)))
    (pss_cons (ps_for PassesOwn.never rfl (pi_range1 (by rfl) B.range (pa_cons pe_int pa_nil)) (pg_name (i := 2) law_sc.nd rfl (Or.inl rfl)) (pss_cons (ps_set (i := 3) law_sc.nd rfl (Or.inl rfl) (pe_lst (pa_cons pe_non (pa_cons pe_bl (pa_cons pe_int (pa_cons (pe_un un_neg pe_int) (pa_cons (pe_op op_pow pe_int pe_int) (pa_cons pe_str (pa_cons pe_str (pa_cons (pe_tup (pa_cons pe_int (pa_cons (pe_lst (pa_cons pe_int pa_nil)) pa_nil))) (pa_cons (pe_lst pa_nil) (pa_cons pe_dnewK (pa_cons (pe_callD h__law_take (hr.mono (by first | decide | exact Nat.le_refl _)) (pa_cons (pv 1) (pa_cons pe_int pa_nil))) pa_nil)))))))))))))
    (pss_cons (ps_set (i := 4) law_sc.nd rfl (Or.inr rfl) (pe_callD h__law_pick (hr.mono (by first | decide | exact Nat.le_refl _)) (pa_cons (pv 1) (pa_cons (pv 3) pa_nil))))
    (pss_cons (ps_set (i := 5) law_sc.nd rfl (Or.inl rfl) (pe_callD h__law_with_fields (hr.mono (by first | decide | exact Nat.le_refl _)) (pa_cons (pv 4) pa_nil)))
    (pss_cons (ps_for PassesOwn.never rfl (pi_tup (pe_tup (pa_cons (pe_slice sl_list (pv 5) po_none (po_some pe_int)) (pa_cons (pe_slice sl_list (pv 5) (po_some pe_int) po_none) pa_nil)))) (pg_name (i := 6) law_sc.nd rfl (Or.inl rfl)) (pss_one (ps_if (pt_not (pt_val (pe_callB (cr_allK K rfl) (by rfl) B.all (by decide +kernel) (pa_cons (pe_lc (own := [("_law_kept", 10)]) rfl law_sc.nd (by exact (pi_listK K (pe_callD h__law_fields (hr.mono (by first | decide | exact Nat.le_refl _)) (pa_cons (pv 6) pa_nil)))) (blkOk_by (N := law_N) (sc := defScope law_S) (by decide +kernel)) (fun _ _ _ _ _ => (pg_name (i := 10) law_sc.nd rfl (Or.inl rfl))) (fun _ _ _ _ _ => pts_nil) (fun _ _ _ _ _ => by exact (pe_cmpR op_eq (pe_callB (call_repr K rfl (by exact hgd) (hr.mono (by first | decide | exact Nat.le_refl _))) (by rfl) hRp (by decide +kernel) (pa_cons (pv 10) pa_nil)) (pe_callB (call_repr K rfl (by exact hgd) (hr.mono (by first | decide | exact Nat.le_refl _))) (by rfl) hRp (by decide +kernel) (pa_cons (pv 4) pa_nil)) (nomark _)))) pa_nil)))) (pss_one (ps_ret pe_bl)) pss_nil)))
    (pss_cons (ps_for PassesOwn.never rfl (pi_enum (by rfl) B.enumerate (pa_cons (pe_op op_cat (pe_slice sl_list (pv 5) po_none (po_some pe_int)) (pe_callD0 h__law_plain_ones (hr.mono (by first | decide | exact Nat.le_refl _)))) pa_nil)) (pg_tupK (k := 2) K rfl (pgs_cons (pg_name (i := 7) law_sc.nd rfl (Or.inr rfl)) (pgs_cons (pg_name (i := 8) law_sc.nd rfl (Or.inl rfl)) pgs_nil))) (pss_cons (ps_if (PW.pt (pw_or (pt_not (pt_val (pe_callB (call_isA K rfl) (by rfl) B.isinstance (by decide +kernel) (pa_cons (pv 8) (pa_cons (pe_glob (v := .ref CS) rfl h_T.gS rfl) pa_nil))))) (pw_or1 (pt_not (pt_val (pe_callB (call_isA K rfl) (by rfl) B.isinstance (by decide +kernel) (pa_cons (pv 8) (pa_cons (pe_bltn (v := .ty "ValueError") (by rfl) hVE (by decide +kernel) rfl) pa_nil)))))))) (pss_one (ps_ret pe_bl)) pss_nil)
    (pss_one (ps_if (pt_cmpR (op_neD hr.units) (pe_callD h__law_classes (hr.mono (by first | decide | exact Nat.le_refl _)) (pa_cons (pv 8) pa_nil)) (pe_lc (own := [("_law_k", 9)]) rfl law_sc.nd (pi_range1 (by rfl) B.range (pa_cons pe_int pa_nil)) (blkOk_by (N := law_N) (sc := defScope law_S) (by decide +kernel)) (fun _ _ _ _ _ => (pg_name (i := 9) law_sc.nd rfl (Or.inl rfl))) (fun _ _ _ _ _ => pts_nil) (fun _ _ _ _ _ => by exact (pe_cmpR op_eq (pv 9) (pv 7) (nomark _)))) (nomark _)) (pss_one (ps_ret pe_bl)) pss_nil))))
    (pss_one (ps_if (pt_val (pe_callB (call_isA K rfl) (by rfl) B.isinstance (by decide +kernel) (pa_cons (pv 4) (pa_cons (pe_bltn (v := .ty "list") (by rfl) B.list (by decide +kernel) rfl) pa_nil)))) (pss_cons (ps_expr (pe_bm PySem.F.plainAttrs_list PySem.F.slot_list_append PySem.F.type_list_append mt_append (pv 4) (pa_cons pe_str pa_nil)))
    (pss_one (ps_if (pt_cmpR (op_neD hr.units) (pe_op op_cat (pe_callD h__law_fields (hr.mono (by first | decide | exact Nat.le_refl _)) (pa_cons (pe_slice sl_list (pv 5) po_none (po_some pe_int)) pa_nil)) (pe_callD h__law_fields (hr.mono (by first | decide | exact Nat.le_refl _)) (pa_cons (pe_slice sl_list (pv 5) (po_some pe_int) po_none) pa_nil))) (pe_op op_rep (pe_lst (pa_cons (pe_lst (pa_cons pe_str pa_nil)) pa_nil)) pe_int) (nomark _)) (pss_one (ps_ret pe_bl)) pss_nil))) pss_nil))))))))
    (pss_one (ps_ret pe_bl)))), ?_⟩
    refine ⟨_, rfl, ⟨a, ns, rfl, hsq, hns, fun s q H1 hs0 hq0 ex1 spr0 => ?_⟩⟩
    show tSeq _ _ _ (S11 (some (.ref a)) (some (.ref s)) none none none none none none none none none) H1
    have A0 : At2 s q (fun _ => none) H1 0 := ⟨fun _ _ z => (nomatch z), rfl, rfl, spr0⟩
    refine q_forS (K := K) (O := ErO CC) (src_r1 (O := ErO CC) (ea_cons ev_c ea_nil) ⟨by decide, by decide⟩) A0.e (fun i σ' G' H' => (∃ x2 x3 x4 x5 x6 x7 x8 x9 x10, σ' = (S11 (some (.ref a)) (some (.ref s)) x2 x3 x4 x5 x6 x7 x8 x9 x10)) ∧ At2 s q G' H' (10 * i)) (fun G0 H0 l0 => ⟨⟨_, _, _, _, _, _, _, _, _, rfl⟩, A0.le l0⟩) ?_ ?_
    · rintro G0 i d x σ' Gi Hi Gi' Hi' e0 hd e1 e2 ⟨⟨x2, x3, x4, x5, x6, x7, x8, x9, x10, rfl⟩, Ai⟩ l' ad N hN
      have hi : i < 3 := by
        have h9 := (List.getElem?_eq_some_iff.mp hd).1
        simpa [rngD] using h9
      have A := Ai.le l'
      have Ab := A
      obtain ⟨r, spr⟩ := A.spr.r
      clear ad hd
      show tSeq (tAsg _ _) _ _ (S11 (some (.ref a)) (some (.ref s)) (some x) x3 x4 x5 x6 x7 x8 x9 x10) Hi'
      refine rw_asg (rw_lst (rw_cons (rw_c (rw_cons (rw_c (rw_cons (rw_c (rw_cons ⟨7, rfl, rw_cons (rw_op (rw_c (rw_c ⟨10, 30, rfl, rfl, ⟨by decide, by decide, by decide⟩, rw_cons (rw_c (rw_cons (rw_c (rw_cons ?_)))) ⟩)))⟩))))))))
      refine (ed_tup (K := K) (O := ErO CC) (ds := [.int 1, .lst [.int 2]]) (eda_cons (ed_of ev_c (at_int.mpr rfl)) (eda_cons (ed_lst (eda_cons (ed_of ev_c (at_int.mpr rfl)) eda_nil) (by show 1 ≤ 100000; decide)) eda_nil)) (by show 2 ≤ 100000; decide)) Hi' A.e _ fun vT G2 H2 l2 aT => rw_cons (rw_lst (rw_nil ⟨by show 0 ≤ sizeLine; decide, fun pa hpa => rw_cons fun pd hpd => rw_cons ?_⟩))
      have A := A.le l2
      have hpa0 : Hi' pa = none := fresh_back l2.h hpa
      have hpr : r ≠ pa := fun z => spr.rne (z ▸ hpa0)
      have l3 := Le.new A.e (o := .lst []) hpa
      have A := A.le l3
      have l4 := Le.new A.e (o := .dK []) hpd
      have A := A.le l4
      have lc := (l2.trans l3).trans l4
      have spr := spr.keep lc.h (Nat.le_refl _)
      have gpa : upd (upd G2 pa (.lst [])) pd (.dK []) pa = some (.lst []) := l4.g _ _ upd_same
      have gpd : upd (upd G2 pa (.lst [])) pd (.dK []) pd = some (.dK []) := upd_same
      have aT := aT.mono (l3.g.trans l4.g)
      generalize upd (upd G2 pa (.lst [])) pd (.dK []) = G4 at A lc gpa gpd aT
      generalize upd (upd H2 pa (.lst [])) pd (.dK []) = H4 at A lc spr
      clear l2 l3 l4 hpa hpd
      refine rw_call (rw_cons (rw_var (i := 1) rfl (rw_cons (rw_c (rw_nil ⟨G4, s, q, r, _, 1000, rfl, A.e, A.gs, A.gq, spr, by omega, by decide, by decide, fun z G5 H5 hz0 hz1 l5 sp5 => rw_nil ⟨by show 11 ≤ sizeLine; decide, fun pl hpl => ?_⟩⟩)))))
      have A := A.go l5 sp5.spr
      have lx := lc.x.trans l5
      have l6 := Le.new A.e (o := .lst [.non, .bl true, .int 0, .int (-7), .int (10 ^ (30 : Int).toNat), .str "", .str "a b", vT, .ref pa, .ref pd, .int z]) hpl
      have A := A.le l6
      have lx := lx.trans l6.x
      have spr := sp5.keep l6.h (Nat.le_refl _)
      have eg := l5.g.trans l6.g
      have gpl : upd G5 pl (.lst [.non, .bl true, .int 0, .int (-7), .int (10 ^ (30 : Int).toNat), .str "", .str "a b", vT, .ref pa, .ref pd, .int z]) pl = some (.lst [.non, .bl true, .int 0, .int (-7), .int (10 ^ (30 : Int).toNat), .str "", .str "a b", vT, .ref pa, .ref pd, .int z]) := upd_same
      have gpa := eg _ _ gpa
      have gpd := eg _ _ gpd
      have aT := aT.mono eg
      show tSeq _ _ _ (S11 (some (.ref a)) (some (.ref s)) (some x) (some (.ref pl)) x4 x5 x6 x7 x8 x9 x10) (upd H5 pl (.lst [.non, .bl true, .int 0, .int (-7), .int (10 ^ (30 : Int).toNat), .str "", .str "a b", vT, .ref pa, .ref pd, .int z]))
      generalize upd G5 pl (.lst [.non, .bl true, .int 0, .int (-7), .int (10 ^ (30 : Int).toNat), .str "", .str "a b", vT, .ref pa, .ref pd, .int z]) = G6 at A lx gpl gpa gpd aT
      generalize upd H5 pl (.lst [.non, .bl true, .int 0, .int (-7), .int (10 ^ (30 : Int).toNat), .str "", .str "a b", vT, .ref pa, .ref pd, .int z]) = H6 at A lx spr
      clear l5 l6 lc eg hpl sp5
      refine rw_asg (rw_call (rw_cons (rw_var (i := 1) rfl (rw_cons (rw_var (i := 3) rfl (rw_nil ⟨G6, s, q, r, _, pl, _, rfl, A.e, A.gs, A.gq, spr, by omega, gpl, (by show 0 < 11; decide), (by show 11 ≤ 1000; decide), fun j y G7 H7 hy l7 sp7 => ?_⟩))))))
      have A := A.go l7 sp7.spr
      have lx := lx.trans l7
      have gpa := l7.g _ _ gpa
      have gpd := l7.g _ _ gpd
      have aT := aT.mono l7.g
      show tSeq _ _ _ (S11 (some (.ref a)) (some (.ref s)) (some x) (some (.ref pl)) (some y) x5 x6 x7 x8 x9 x10) H7
      obtain ⟨d, ad, td⟩ : ∃ d, At K (ErO CC) G7 d y ∧ ThingD y pa d := by
        have hj : j < 11 := (List.getElem?_eq_some_iff.mp hy).1
        match j, hy, hj with
        | 0, hy, _ => cases hy; exact ⟨.non, at_non.mpr rfl, thing_c (.inl ⟨rfl, rfl⟩) (by decide +kernel) (fun z => nomatch z) (by decide +kernel) (by decide +kernel) (fun w z => nomatch z) (fun z => nomatch z)⟩
        | 1, hy, _ => cases hy; exact ⟨.bl true, at_bl.mpr rfl, thing_c (.inl ⟨rfl, rfl⟩) (by decide +kernel) (fun z => nomatch z) (by decide +kernel) (by decide +kernel) (fun w z => nomatch z) (fun z => nomatch z)⟩
        | 2, hy, _ => cases hy; exact ⟨.int 0, at_int.mpr rfl, thing_c (.inl ⟨rfl, rfl⟩) (by decide +kernel) (fun z => nomatch z) (by decide +kernel) (by decide +kernel) (fun w z => nomatch z) (fun z => nomatch z)⟩
        | 3, hy, _ => cases hy; exact ⟨.int (-7), at_int.mpr rfl, thing_c (.inl ⟨rfl, rfl⟩) (by decide +kernel) (fun z => nomatch z) (by decide +kernel) (by decide +kernel) (fun w z => nomatch z) (fun z => nomatch z)⟩
        | 4, hy, _ => cases hy; exact ⟨.int (10 ^ (30 : Int).toNat), at_int.mpr rfl, thing_c (.inl ⟨rfl, rfl⟩) (by decide +kernel) (fun z => nomatch z) (by decide +kernel) (by decide +kernel) (fun w z => nomatch z) (fun z => nomatch z)⟩
        | 5, hy, _ => cases hy; exact ⟨.str "", at_str.mpr rfl, thing_c (.inl ⟨rfl, rfl⟩) (by decide +kernel) (fun z => nomatch z) (by decide +kernel) (by decide +kernel) (fun w z => nomatch z) (fun z => nomatch z)⟩
        | 6, hy, _ => cases hy; exact ⟨.str "a b", at_str.mpr rfl, thing_c (.inl ⟨rfl, rfl⟩) (by decide +kernel) (fun z => nomatch z) (by decide +kernel) (by decide +kernel) (fun w z => nomatch z) (fun z => nomatch z)⟩
        | 7, hy, _ => cases hy; exact ⟨.tup [.int 1, .lst [.int 2]], aT, thing_c (.inl ⟨rfl, rfl⟩) (by decide +kernel) (fun z => nomatch z) (by decide +kernel) (by decide +kernel) (fun w z => nomatch z) (fun z => nomatch z)⟩
        | 8, hy, _ => cases hy; exact ⟨.lst [], at_lst.mpr ⟨pa, [], rfl, gpa, atL_nil.mpr rfl⟩, thing_c (.inl ⟨rfl, rfl⟩) (by decide +kernel) (fun z => nomatch z) (by decide +kernel) (by decide +kernel) (fun w z => nomatch z) (fun _ => ⟨rfl, rfl⟩)⟩
        | 9, hy, _ => cases hy; exact ⟨.dic [], at_dic.mpr ⟨pd, rfl, gpd⟩, thing_c (.inr rfl) (by decide +kernel) (fun _ => rfl) (by decide +kernel) (by decide +kernel) (fun w z => nomatch z) (fun z => nomatch z)⟩
        | 10, hy, _ => cases hy; exact ⟨.int z, at_int.mpr rfl, thing_c (.inl ⟨rfl, rfl⟩) (decide_eq_true (int_shown hz0 hz1)) (fun z => nomatch z) (by show 0 ≤ 100; decide) (int_text_fits (int_shown hz0 hz1)) (fun w z => nomatch z) (fun z => nomatch z)⟩
        | j + 11, _, hj => exact absurd hj (by omega)
      clear aT gpd gpl hy
      refine rw_asg (rw_call (rw_cons (rw_var (i := 4) rfl (rw_nil ⟨G7, y, rfl, A.e, fun vm G8 H8 l8 am => ?_⟩))))
      have A := A.le l8
      have lx := lx.trans l8.x
      have gpa := l8.g _ _ gpa
      have ad := ad.mono l8.g
      have spr := sp7.keep l8.h (Nat.le_refl _)
      show tSeq _ _ _ (S11 (some (.ref a)) (some (.ref s)) (some x) (some (.ref pl)) (some y) (some vm) x6 x7 x8 x9 x10) H8
      have hM : ∀ {y6 y7 y8 y9 y10 : Option V} {Gx : Hp}, Ex G8 Gx → EvD K (ErO CC) (tSl (rSlL K) (tVar 5) tNoPart (tPart (tC (V.int 10)))) (S11 (some (.ref a)) (some (.ref s)) (some x) (some (.ref pl)) (some y) (some vm) y6 y7 y8 y9 y10) Gx (.lst (ersL 10 y)) := fun {y6 y7 y8 y9 y10 Gx} eX => ed_takeZ (ds := ersL 10 y ++ ersL 10 y) (hi := 10) (ed_var (i := 5) rfl (am.mono eX)) ev_c
      have hM2 : ∀ {y6 y7 y8 y9 y10 : Option V} {Gx : Hp}, Ex G8 Gx → EvD K (ErO CC) (tSl (rSlL K) (tVar 5) (tPart (tC (V.int 10))) tNoPart) (S11 (some (.ref a)) (some (.ref s)) (some x) (some (.ref pl)) (some y) (some vm) y6 y7 y8 y9 y10) Gx (.lst (ersL 10 y)) := fun {y6 y7 y8 y9 y10 Gx} eX => ed_dropZ (ds := ersL 10 y ++ ersL 10 y) (lo := 10) (ed_var (i := 5) rfl (am.mono eX)) ev_c
      refine q_forS (K := K) (O := ErO CC) (src_tup (ed_tup (eda_cons (hM (Ex.refl _)) (eda_cons (hM2 (Ex.refl _)) eda_nil)) (by show 2 ≤ 100000; decide))) A.e (fun _ σ' G' H' => (∃ x6 x10, σ' = (S11 (some (.ref a)) (some (.ref s)) (some x) (some (.ref pl)) (some y) (some vm) x6 x7 x8 x9 x10)) ∧ LeX s q Gi' Hi' G' H' ∧ At2 s q G' H' (10 * i + 1 + 1) ∧ Ex G8 G' ∧ SprR H' s q r (10 * i + 1 + 1)) (fun G0 H0 l0 => ⟨⟨_, _, rfl⟩, lx.trans l0.x, A.le l0, l0.g, spr.keep l0.h (Nat.le_refl _)⟩) ?_ ?_
      · rintro G0 m dm xm σ' Gj Hj Gj' Hj' f0 hdm f1 f2 ⟨⟨y6, y10, rfl⟩, lj, Aj, ej, sj⟩ lm am2 N2 hN2
        have hdm' : dm = .lst (ersL 10 y) := by
          match m, hdm with
          | 0, hdm => exact (Option.some.inj hdm).symm
          | 1, hdm => exact (Option.some.inj hdm).symm
          | m + 2, hdm => cases hdm
        subst hdm'
        have A2 := Aj.le lm
        have lj := lj.trans lm.x
        have adm := ad.mono (ej.trans lm.g)
        have ejm := ej.trans lm.g
        show tIfS _ _ _ _ (S11 (some (.ref a)) (some (.ref s)) (some x) (some (.ref pl)) (some y) (some vm) (some xm) x7 x8 x9 y10) Hj'
        have hcomp : EvD K (ErO CC) (tLc (iList K (tCall (spFields K CC) [] E0 (tCons (tVar 6) tNil))) (gName 10) tYes (tOp rEq (tCB (rRepr K) (tCons (tVar 10) tNil)) (tCB (rRepr K) (tCons (tVar 4) tNil))) [10]) (S11 (some (.ref a)) (some (.ref s)) (some x) (some (.ref pl)) (some y) (some vm) (some xm) x7 x8 x9 y10) Gj' (.lst (((List.replicate 10 d).filter fun _ => true).map fun _ => D.bl true)) := by
          refine ed_lc (fun _ => true) (fun _ => D.bl true) (src_list (ev_fields (ed_var (i := 6) rfl am2) adm)) (by rw [List.length_replicate]; decide) fun i' d' x' Gk Hk hd' g1 g2 a' Q' hQ => ?_
          have e9 : d' = d := (List.mem_replicate.mp (List.mem_of_getElem? hd')).2
          subst e9
          refine hQ _ Hk (Ex.refl _) wipe_set et_yes fun _ => ?_
          have h1 := ev_repr (K := K) (O := ErO CC) (σ := S11 (some (.ref a)) (some (.ref s)) (some x) (some (.ref pl)) (some y) (some vm) (some xm) x7 x8 x9 (some x')) (te := tVar 10) (ed_var (i := 10) rfl a') td.sh
          have h2 := ev_repr (K := K) (O := ErO CC) (σ := S11 (some (.ref a)) (some (.ref s)) (some x) (some (.ref pl)) (some y) (some vm) (some xm) x7 x8 x9 (some x')) (te := tVar 4) (ed_var (i := 4) rfl (adm.mono g1)) td.sh
          have h3 := ev_op h1 h2 (rv_eq (x := .str (showP d').shown) (y := .str (showP d').shown) rfl)
          rw [decide_eq_true rfl] at h3
          exact ed_of h3 (at_bl.mpr rfl)
        have hall : EvT (tB (tCB (rAll K) (tCons (tLc (iList K (tCall (spFields K CC) [] E0 (tCons (tVar 6) tNil))) (gName 10) tYes (tOp rEq (tCB (rRepr K) (tCons (tVar 10) tNil)) (tCB (rRepr K) (tCons (tVar 4) tNil))) [10]) tNil))) (S11 (some (.ref a)) (some (.ref s)) (some x) (some (.ref pl)) (some y) (some vm) (some xm) x7 x8 x9 y10) Gj' true := et_B (ev_allD (bs := List.replicate 10 true) hcomp)
        refine s_ifG (b := false) (et_is (et_not hall) rfl) A2.e (fun z => nomatch z) fun _ H9 l9 => ?_
        exact hN2 _ Gj' H9 (Ex.refl _) l9.e ⟨⟨_, _, rfl⟩, lj.trans l9.x, A2.le l9, ejm, (sj.keep lm.h (Nat.le_refl _)).keep l9.h (Nat.le_refl _)⟩
      rintro σ' G9 H9 f1 f2 ⟨⟨y6, y10, rfl⟩, l9, A9, e9, s9⟩
      clear lx
      have hsrc : Src K (ErO CC) (iEnum K (tCons (tOp rCat (tSl (rSlL K) (tVar 5) tNoPart (tPart (tC (V.int 10)))) (tCall (SpD K (ErO CC) rPlain) [] E0 tNil)) tNil)) (S11 (some (.ref a)) (some (.ref s)) (some x) (some (.ref pl)) (some y) (some vm) y6 x7 x8 x9 y10) G9 (idxD (ersL 10 y ++ ers0 10 14)) := src_enum (eda_cons (ed_cat (hM e9) plain_call (by show 10 + 14 ≤ 100000; decide)) eda_nil)
      refine q_forS (K := K) (O := ErO CC) hsrc A9.e (fun _ σ' G' H' => (∃ z7 z8 z9, σ' = (S11 (some (.ref a)) (some (.ref s)) (some x) (some (.ref pl)) (some y) (some vm) y6 z7 z8 z9 y10)) ∧ LeX s q Gi' Hi' G' H' ∧ At2 s q G' H' (10 * i + 1 + 1) ∧ Ex G8 G' ∧ SprR H' s q r (10 * i + 1 + 1)) (fun G0 H0 l0 => ⟨⟨_, _, _, rfl⟩, l9.trans l0.x, A9.le l0, e9.trans l0.g, s9.keep l0.h (Nat.le_refl _)⟩) ?_ ?_
      · rintro G0 m dm xm σ' Gj Hj Gj' Hj' f0 hdm f1 f2 ⟨⟨z7, z8, z9, rfl⟩, lj, Aj, ej, sj⟩ lm am2 N2 hN2
        have hm24 : m < (ersL 10 y ++ ers0 10 14).length := by
          have := (List.getElem?_eq_some_iff.mp hdm).1
          rwa [idxD_len] at this
        obtain ⟨hm, u, hu⟩ := all_get (List.getElem?_eq_getElem hm24)
        have hdm2 := idxD_get (List.getElem?_eq_getElem hm24)
        rw [hdm] at hdm2
        rw [hu] at hdm2
        obtain rfl := Option.some.inj hdm2
        have A2 := Aj.le lm
        have lj := lj.trans lm.x
        have ejm := ej.trans lm.g
        refine tg_pair am2 A2.e fun w7 w8 c7 c8 => ?_
        obtain rfl := at_int.mp c7
        show tSeq _ _ _ (S11 (some (.ref a)) (some (.ref s)) (some x) (some (.ref pl)) (some y) (some vm) y6 (some (.int (m : Int))) (some w8) z9 y10) Hj'
        have he : ∀ {y9 : Option V}, EvD K (ErO CC) (tVar 8) (S11 (some (.ref a)) (some (.ref s)) (some x) (some (.ref pl)) (some y) (some vm) y6 (some (.int (m : Int))) (some w8) y9 y10) Gj' (.obj (m, u)) := fun {y9} => ed_var (i := 8) rfl c8
        refine q_skip (et_is (et_or (et_not (et_B (ev_isE he (h_T.is m hm) ev_c (.own _) (h_T.seen m hm)))) fun _ => et_not (et_B (ev_isE he (h_T.is m hm) ev_c (.ty _) (h_T.val m hm)))) rfl) A2.e fun H10 l10 => ?_
        have A2 := A2.le l10
        have lj := lj.trans l10.x
        have hcl := ed_call (K := K) (O := ErO CC) (E := E0) (R := rClasses) (eda_cons (he (y9 := z9)) eda_nil) ⟨m, u, hm, rfl, rfl⟩
        have hcomp : EvD K (ErO CC) (tLc (iRng1 (tCons (tC (V.int 24)) tNil)) (gName 9) tYes (tOp rEq (tVar 9) (tVar 7)) [9]) (S11 (some (.ref a)) (some (.ref s)) (some x) (some (.ref pl)) (some y) (some vm) y6 (some (.int (m : Int))) (some w8) z9 y10) Gj' (.lst (((rngD 0 24).filter fun _ => true).map (eqAt m))) := by
          refine ed_lc (fun _ => true) (eqAt m) (src_r1 (O := ErO CC) (ea_cons ev_c ea_nil) ⟨by decide, by decide⟩) (by decide) fun i' d' x' Gk Hk hd' g1 g2 a' Q' hQ => ?_
          refine hQ _ Hk (Ex.refl _) wipe_set et_yes fun _ => ?_
          have hi' : i' < 24 := by
            have := (List.getElem?_eq_some_iff.mp hd').1
            simpa [rngD] using this
          have e1 := rngD_get (ω := ErS) (lo := 0) hi'
          have e2 : some d' = some (.int (0 + (i' : Int))) := hd'.symm.trans e1
          obtain rfl := Option.some.inj e2
          obtain rfl := at_int.mp a'
          have h3 := ev_op (r := rEq) (σ := S11 (some (.ref a)) (some (.ref s)) (some x) (some (.ref pl)) (some y) (some vm) y6 (some (.int (m : Int))) (some w8) (some (.int (0 + (i' : Int)))) y10) (ta := tVar 9) (tb := tVar 7) (H := Gk) (ev_var (i := 9) rfl) (ev_var (i := 7) rfl) (rv_eq (x := .int (0 + (i' : Int))) (y := .int (m : Int)) rfl)
          have e3 : decide (V.int (0 + (i' : Int)) = V.int (m : Int)) = decide (0 + (i' : Int) = (m : Int)) := by
            by_cases hh : 0 + (i' : Int) = (m : Int)
            · rw [hh, decide_eq_true rfl, decide_eq_true rfl]
            · rw [decide_eq_false hh, decide_eq_false fun z => hh (V.int.inj z)]
          rw [e3] at h3
          exact ed_of h3 (at_bl.mpr rfl)
        refine s_ifG (b := false) (et_is (et_test (ev_neD hcl hcomp (row_ok1 m hm).1 (row_ok2 m hm).1 (row_ok1 m hm).2 (row_ok2 m hm).2 (row_eq m hm))) rfl) A2.e (fun z => nomatch z) fun _ H11 l11 => ?_
        exact hN2 _ Gj' H11 (Ex.refl _) l11.e ⟨⟨_, _, _, rfl⟩, lj.trans l11.x, A2.le l11, ejm, ((sj.keep lm.h (Nat.le_refl _)).keep l10.h (Nat.le_refl _)).keep l11.h (Nat.le_refl _)⟩
      rintro σ' G12 H12 f1 f2 ⟨⟨z7, z8, z9, rfl⟩, l12, A12, e12, s12⟩
      clear l9
      have ad := ad.mono e12
      refine s_ifG (b := dLst d) (et_B (isA_list td.no (ed_var (i := 4) rfl ad))) A12.e (fun hb H13 l13 => ?_) fun _ H13 l13 => ?_
      · obtain ⟨hd1, rfl⟩ := td.ls hb
        subst hd1
        have gpa12 := e12 _ _ gpa
        have A13 := A12.le l13
        have s13 := s12.keep l13.h (Nat.le_refl _)
        have hp13 : H13 pa = some (.lst []) := A13.e _ _ gpa12
        have nps : pa ≠ s := fun z => by rw [z, A12.gs] at gpa12; cases gpa12
        have npq : pa ≠ q := fun z => by rw [z, A12.gq] at gpa12; cases gpa12
        refine ⟨.ref pa, rfl, .inl ⟨rfl, [], sq_of hp13⟩, pa, [], .str "more", rfl, rfl, hp13, by show 0 < sizeLine; decide, ?_⟩
        dsimp only [List.nil_append]
        have ex14 : Ex (upd G12 pa (.lst [.str "more"])) (upd H13 pa (.lst [.str "more"])) := fun b o hb2 => by
          by_cases z : b = pa
          · rw [z, upd_same] at hb2 ⊢; exact hb2
          · rw [upd_ne z] at hb2 ⊢; exact A13.e b o hb2
        have am14 : At K (ErO CC) (upd G12 pa (.lst [.str "more"])) (.lst (ersL 10 (.ref pa) ++ ersL 10 (.ref pa))) vm := by
          obtain ⟨p9, vs9, rfl, hp9, as9⟩ := at_lst.mp (am.mono e12)
          have np9 : p9 ≠ pa := fun z => by
            rw [z, gpa12] at hp9
            have e1 : ([] : List V) = vs9 := by injection Option.some.inj hp9
            have e2 := as9.len
            rw [← e1] at e2
            have e3 : (0 : Nat) = 20 := e2
            exact absurd e3 (by decide)
          refine at_lst.mpr ⟨p9, vs9, rfl, by rw [upd_ne np9]; exact hp9, at_keep gpa12 (fun d hd => ?_) as9⟩
          rcases List.mem_append.mp hd with hd | hd
          · obtain ⟨j, _, rfl⟩ := List.mem_map.mp hd; exact ⟨_, rfl⟩
          · obtain ⟨j, _, rfl⟩ := List.mem_map.mp hd; exact ⟨_, rfl⟩
        have ad14 : At K (ErO CC) (upd G12 pa (.lst [.str "more"])) (.lst [.str "more"]) (.ref pa) := at_lst.mpr ⟨pa, [.str "more"], rfl, upd_same, AtL.one (at_str.mpr rfl)⟩
        have g1 := ed_takeZ (K := K) (O := ErO CC) (σ := S11 (some (.ref a)) (some (.ref s)) (some x) (some (.ref pl)) (some (.ref pa)) (some vm) y6 z7 z8 z9 y10) (ds := ersL 10 (.ref pa) ++ ersL 10 (.ref pa)) (hi := 10) (te := tVar 5) (th := tC (.int 10)) (ed_var (i := 5) rfl am14) ev_c
        have g2 := ed_dropZ (K := K) (O := ErO CC) (σ := S11 (some (.ref a)) (some (.ref s)) (some x) (some (.ref pl)) (some (.ref pa)) (some vm) y6 z7 z8 z9 y10) (ds := ersL 10 (.ref pa) ++ ersL 10 (.ref pa)) (lo := 10) (te := tVar 5) (tl := tC (.int 10)) (ed_var (i := 5) rfl am14) ev_c
        have g3 := ed_cat (ev_fields (E := E0) (x := .ref pa) (by exact g1) ad14) (ev_fields (E := E0) (x := .ref pa) (by exact g2) ad14) (by show 10 + 10 ≤ 100000; decide)
        have g4 := ed_repL (K := K) (O := ErO CC) (G := upd G12 pa (.lst [.str "more"])) (σ := S11 (some (.ref a)) (some (.ref s)) (some x) (some (.ref pl)) (some (.ref pa)) (some vm) y6 z7 z8 z9 y10) (d := .lst [.str "more"]) (n := 20) (ta := tLst (tCons (tLst (tCons (tC (.str "more")) tNil)) tNil)) (tb := tC (.int 20)) (ed_lst (eda_cons (ed_lst (eda_cons (ed_of ev_c (at_str.mpr rfl)) eda_nil) (by show 1 ≤ 100000; decide)) eda_nil) (by show 1 ≤ 100000; decide)) ev_c (by decide)
        refine s_ifG (b := false) (et_is (et_test (ev_neD g3 g4 (by decide +kernel) (by decide +kernel) (by decide +kernel) (by decide +kernel) more_eq)) rfl) ex14 (fun z => nomatch z) fun _ H15 l15 => ?_
        have s15 := (s13.mut (o := .lst [.str "more"]) nps npq (fun z => hpr z.symm)).keep l15.h (Nat.le_refl _)
        have gpaI : Gi' pa = none := none_of_ex Ab.e hpa0
        exact hN _ Gi' H15 (Ex.refl _) (fun b o hb2 => l15.e b o (by rw [upd_ne (fun z => by rw [z, gpaI] at hb2; cases hb2)]; exact l12.g b o hb2)) ⟨⟨_, _, _, _, _, _, _, _, _, rfl⟩, ⟨fun b o hb2 => l15.e b o (by rw [upd_ne (fun z => by rw [z, gpaI] at hb2; cases hb2)]; exact l12.g b o hb2), Ab.gs, Ab.gq, s15.spr.keep (fun _ _ z => z) (by omega)⟩⟩
      · have A13 := A12.le l13
        exact hN _ Gi' H13 (Ex.refl _) (fun b o hb2 => A13.e b o (l12.g b o hb2)) ⟨⟨_, _, _, _, _, _, _, _, _, rfl⟩, ⟨fun b o hb2 => A13.e b o (l12.g b o hb2), Ab.gs, Ab.gq, A13.spr.keep (fun _ _ z => z) (by omega)⟩⟩
    · rintro σ' G' H' e1 e2 ⟨⟨x2, x3, x4, x5, x6, x7, x8, x9, x10, rfl⟩, Ai⟩
      exact k _
end
end SR
set_option maxRecDepth 100000
set_option maxHeartbeats 4000000
namespace SR
open PySem PySem.Spec PyProof.Rows L2 Evl
/-! ### the errors' own __init__; what the written part says of the classes -/
section
variable {P : Program} {w : World} {K : PySem.W.Frag} {mg : Str → Option Value} {base : Heap} {C : Addr}
abbrev BadPrime___init___S : Stmt := inClass (topS 2) 0
abbrev BadPrime___init___N : List Str := ["self", "prime"]
theorem BadPrime___init___sc : FnScope BadPrime___init___N ["self", "prime"] (defScope BadPrime___init___S) := ⟨rfl, rfl, rfl, by decide +kernel, rfl, by decide +kernel, by decide +kernel⟩
theorem ok_ini0 {f : Addr} {fd : FuncData} (F : Fun K "__init__" "BadPrime.__init__" BadPrime___init___S f fd) (T : OexC K C) (hno : PySem.W.findIn K (.ref C) "prime" = some none) : FnOk P w K mg base CX0 1 f fd ["self", "prime"] (spXI C "prime") := by
  refine F.ok BadPrime___init___sc (fun vs H Q E h => ?_) (fun cdv A outer s H vs Q E hr h => ?_)
  · obtain ⟨a, y, rfl, _⟩ := h
    rfl
  · obtain ⟨a, y, rfl, ha, k⟩ := h
    refine ⟨_, (pss_one (ps_ost (pv 0) (pv 1))), ?_⟩
    exact run_xi T hno ha rfl rfl k
abbrev BadTerm___init___S : Stmt := inClass (topS 3) 0
abbrev BadTerm___init___N : List Str := ["self", "index"]
theorem BadTerm___init___sc : FnScope BadTerm___init___N ["self", "index"] (defScope BadTerm___init___S) := ⟨rfl, rfl, rfl, by decide +kernel, rfl, by decide +kernel, by decide +kernel⟩
theorem ok_ini1 {f : Addr} {fd : FuncData} (F : Fun K "__init__" "BadTerm.__init__" BadTerm___init___S f fd) (T : OexC K C) (hno : PySem.W.findIn K (.ref C) "index" = some none) : FnOk P w K mg base CX0 1 f fd ["self", "index"] (spXI C "index") := by
  refine F.ok BadTerm___init___sc (fun vs H Q E h => ?_) (fun cdv A outer s H vs Q E hr h => ?_)
  · obtain ⟨a, y, rfl, _⟩ := h
    rfl
  · obtain ⟨a, y, rfl, ha, k⟩ := h
    refine ⟨_, (pss_one (ps_ost (pv 0) (pv 1))), ?_⟩
    exact run_xi T hno ha rfl rfl k
abbrev BadWidth___init___S : Stmt := inClass (topS 8) 0
abbrev BadWidth___init___N : List Str := ["self", "width"]
theorem BadWidth___init___sc : FnScope BadWidth___init___N ["self", "width"] (defScope BadWidth___init___S) := ⟨rfl, rfl, rfl, by decide +kernel, rfl, by decide +kernel, by decide +kernel⟩
theorem ok_ini2 {f : Addr} {fd : FuncData} (F : Fun K "__init__" "BadWidth.__init__" BadWidth___init___S f fd) (T : OexC K C) (hno : PySem.W.findIn K (.ref C) "width" = some none) : FnOk P w K mg base CX0 1 f fd ["self", "width"] (spXI C "width") := by
  refine F.ok BadWidth___init___sc (fun vs H Q E h => ?_) (fun cdv A outer s H vs Q E hr h => ?_)
  · obtain ⟨a, y, rfl, _⟩ := h
    rfl
  · obtain ⟨a, y, rfl, ha, k⟩ := h
    refine ⟨_, (pss_one (ps_ost (pv 0) (pv 1))), ?_⟩
    exact run_xi T hno ha rfl rfl k
abbrev BadRow___init___S : Stmt := inClass (topS 9) 0
abbrev BadRow___init___N : List Str := ["self", "index"]
theorem BadRow___init___sc : FnScope BadRow___init___N ["self", "index"] (defScope BadRow___init___S) := ⟨rfl, rfl, rfl, by decide +kernel, rfl, by decide +kernel, by decide +kernel⟩
theorem ok_ini3 {f : Addr} {fd : FuncData} (F : Fun K "__init__" "BadRow.__init__" BadRow___init___S f fd) (T : OexC K C) (hno : PySem.W.findIn K (.ref C) "index" = some none) : FnOk P w K mg base CX0 1 f fd ["self", "index"] (spXI C "index") := by
  refine F.ok BadRow___init___sc (fun vs H Q E h => ?_) (fun cdv A outer s H vs Q E hr h => ?_)
  · obtain ⟨a, y, rfl, _⟩ := h
    rfl
  · obtain ⟨a, y, rfl, ha, k⟩ := h
    refine ⟨_, (pss_one (ps_ost (pv 0) (pv 1))), ?_⟩
    exact run_xi T hno ha rfl rfl k
abbrev BadCount___init___S : Stmt := inClass (topS 17) 0
abbrev BadCount___init___N : List Str := ["self", "count"]
theorem BadCount___init___sc : FnScope BadCount___init___N ["self", "count"] (defScope BadCount___init___S) := ⟨rfl, rfl, rfl, by decide +kernel, rfl, by decide +kernel, by decide +kernel⟩
theorem ok_ini4 {f : Addr} {fd : FuncData} (F : Fun K "__init__" "BadCount.__init__" BadCount___init___S f fd) (T : OexC K C) (hno : PySem.W.findIn K (.ref C) "count" = some none) : FnOk P w K mg base CX0 1 f fd ["self", "count"] (spXI C "count") := by
  refine F.ok BadCount___init___sc (fun vs H Q E h => ?_) (fun cdv A outer s H vs Q E hr h => ?_)
  · obtain ⟨a, y, rfl, _⟩ := h
    rfl
  · obtain ⟨a, y, rfl, ha, k⟩ := h
    refine ⟨_, (pss_one (ps_ost (pv 0) (pv 1))), ?_⟩
    exact run_xi T hno ha rfl rfl k
abbrev BadPlace___init___S : Stmt := inClass (topS 18) 0
abbrev BadPlace___init___N : List Str := ["self", "place"]
theorem BadPlace___init___sc : FnScope BadPlace___init___N ["self", "place"] (defScope BadPlace___init___S) := ⟨rfl, rfl, rfl, by decide +kernel, rfl, by decide +kernel, by decide +kernel⟩
theorem ok_ini5 {f : Addr} {fd : FuncData} (F : Fun K "__init__" "BadPlace.__init__" BadPlace___init___S f fd) (T : OexC K C) (hno : PySem.W.findIn K (.ref C) "place" = some none) : FnOk P w K mg base CX0 1 f fd ["self", "place"] (spXI C "place") := by
  refine F.ok BadPlace___init___sc (fun vs H Q E h => ?_) (fun cdv A outer s H vs Q E hr h => ?_)
  · obtain ⟨a, y, rfl, _⟩ := h
    rfl
  · obtain ⟨a, y, rfl, ha, k⟩ := h
    refine ⟨_, (pss_one (ps_ost (pv 0) (pv 1))), ?_⟩
    exact run_xi T hno ha rfl rfl k
abbrev BadName___init___S : Stmt := inClass (topS 20) 0
abbrev BadName___init___N : List Str := ["self", "name"]
theorem BadName___init___sc : FnScope BadName___init___N ["self", "name"] (defScope BadName___init___S) := ⟨rfl, rfl, rfl, by decide +kernel, rfl, by decide +kernel, by decide +kernel⟩
theorem ok_ini6 {f : Addr} {fd : FuncData} (F : Fun K "__init__" "BadName.__init__" BadName___init___S f fd) (T : OexC K C) (hno : PySem.W.findIn K (.ref C) "name" = some none) : FnOk P w K mg base CX0 1 f fd ["self", "name"] (spXI C "name") := by
  refine F.ok BadName___init___sc (fun vs H Q E h => ?_) (fun cdv A outer s H vs Q E hr h => ?_)
  · obtain ⟨a, y, rfl, _⟩ := h
    rfl
  · obtain ⟨a, y, rfl, ha, k⟩ := h
    refine ⟨_, (pss_one (ps_ost (pv 0) (pv 1))), ?_⟩
    exact run_xi T hno ha rfl rfl k
abbrev NoName___init___S : Stmt := inClass (topS 21) 0
abbrev NoName___init___N : List Str := ["self", "name"]
theorem NoName___init___sc : FnScope NoName___init___N ["self", "name"] (defScope NoName___init___S) := ⟨rfl, rfl, rfl, by decide +kernel, rfl, by decide +kernel, by decide +kernel⟩
theorem ok_ini7 {f : Addr} {fd : FuncData} (F : Fun K "__init__" "NoName.__init__" NoName___init___S f fd) (T : OexC K C) (hno : PySem.W.findIn K (.ref C) "name" = some none) : FnOk P w K mg base CX0 1 f fd ["self", "name"] (spXI C "name") := by
  refine F.ok NoName___init___sc (fun vs H Q E h => ?_) (fun cdv A outer s H vs Q E hr h => ?_)
  · obtain ⟨a, y, rfl, _⟩ := h
    rfl
  · obtain ⟨a, y, rfl, ha, k⟩ := h
    refine ⟨_, (pss_one (ps_ost (pv 0) (pv 1))), ?_⟩
    exact run_xi T hno ha rfl rfl k
abbrev BadWord___init___S : Stmt := inClass (topS 22) 0
abbrev BadWord___init___N : List Str := ["self", "word"]
theorem BadWord___init___sc : FnScope BadWord___init___N ["self", "word"] (defScope BadWord___init___S) := ⟨rfl, rfl, rfl, by decide +kernel, rfl, by decide +kernel, by decide +kernel⟩
theorem ok_ini8 {f : Addr} {fd : FuncData} (F : Fun K "__init__" "BadWord.__init__" BadWord___init___S f fd) (T : OexC K C) (hno : PySem.W.findIn K (.ref C) "word" = some none) : FnOk P w K mg base CX0 1 f fd ["self", "word"] (spXI C "word") := by
  refine F.ok BadWord___init___sc (fun vs H Q E h => ?_) (fun cdv A outer s H vs Q E hr h => ?_)
  · obtain ⟨a, y, rfl, _⟩ := h
    rfl
  · obtain ⟨a, y, rfl, ha, k⟩ := h
    refine ⟨_, (pss_one (ps_ost (pv 0) (pv 1))), ?_⟩
    exact run_xi T hno ha rfl rfl k
abbrev BadLine___init___S : Stmt := inClass (topS 25) 0
abbrev BadLine___init___N : List Str := ["self", "index"]
theorem BadLine___init___sc : FnScope BadLine___init___N ["self", "index"] (defScope BadLine___init___S) := ⟨rfl, rfl, rfl, by decide +kernel, rfl, by decide +kernel, by decide +kernel⟩
theorem ok_ini9 {f : Addr} {fd : FuncData} (F : Fun K "__init__" "BadLine.__init__" BadLine___init___S f fd) (T : OexC K C) (hno : PySem.W.findIn K (.ref C) "index" = some none) : FnOk P w K mg base CX0 1 f fd ["self", "index"] (spXI C "index") := by
  refine F.ok BadLine___init___sc (fun vs H Q E h => ?_) (fun cdv A outer s H vs Q E hr h => ?_)
  · obtain ⟨a, y, rfl, _⟩ := h
    rfl
  · obtain ⟨a, y, rfl, ha, k⟩ := h
    refine ⟨_, (pss_one (ps_ost (pv 0) (pv 1))), ?_⟩
    exact run_xi T hno ha rfl rfl k
def erKit (K : PySem.W.Frag) (cs : List Addr) (CS : Addr) : Bool := (List.range 24).all fun i => (PySem.W.kitOne K (.ref (cs.getD i 0)) (.ref CS) == some true) && ((PySem.W.kitOne K (.ref (cs.getD i 0)) (.type "ValueError") == some true) &&
  ((List.range 24).all fun j => PySem.W.kitOne K (.ref (cs.getD i 0)) (.ref (cs.getD j 0)) == some (decide (i = j))))
theorem erKit_ok {cs : List Addr} {CS : Addr} (h : erKit K cs CS = true) {i : Nat} (hi : i < 24) : PySem.W.kitOne K (.ref (cs.getD i 0)) (.ref CS) = some true ∧ PySem.W.kitOne K (.ref (cs.getD i 0)) (.type "ValueError") = some true ∧ ∀ j, j < 24 → PySem.W.kitOne K (.ref (cs.getD i 0)) (.ref (cs.getD j 0)) = some (decide (i = j)) := by
  have h1 := List.all_eq_true.mp h i (List.mem_range.mpr hi)
  simp only [Bool.and_eq_true, beq_iff_eq] at h1
  exact ⟨h1.1, h1.2.1, fun j hj => by
    have h2 := List.all_eq_true.mp h1.2.2 j (List.mem_range.mpr hj)
    simpa using h2⟩
def erIs (K : PySem.W.Frag) (cs : List Addr) : Bool := (List.range 24).all fun i => xfB K (cs.getD i 0) && ((PySem.W.clsIn K (cs.getD i 0)).isSome && (decide (PySem.W.findIn K (.ref (cs.getD i 0)) "__class__" = some (some (.builtin "object.__class__"))) && decide (PySem.W.mroIn K (cs.getD i 0) (.type "object") = some true)))
theorem erIs_ok {cs : List Addr} (h : erIs K cs = true) (cn : PySem.W.specialIn K (.builtin "object.__class__") "__get__" = some (some (.builtin "getset_descriptor.__get__"))) (ct : PySem.W.takesIn K (.builtin "object.__class__") = some true) {i : Nat} (hi : i < 24) : XisC K (cs.getD i 0) := by
  have h1 := List.all_eq_true.mp h i (List.mem_range.mpr hi)
  simp only [Bool.and_eq_true, decide_eq_true_eq] at h1
  exact ⟨xfB_ok h1.1, h1.2.1, h1.2.2.1, cn, ct, h1.2.2.2⟩
def oexB (K : PySem.W.Frag) (C : Addr) : Bool := match K.lookup C with
  | some ⟨.type "type", _, .cls cd, sl⟩ => (match cd.mro, sl.toList with
    | .ref C' :: bm, [_, _, _, _, some (.builtin n), _] => C' == C && n == "ValueError.__new__" && !cd.hasDel && cd.hasDict && PySem.HandSPX.refsVE bm
    | _, _ => false)
  | _ => false
theorem oexB_ok {K : PySem.W.Frag} {C : Addr} (q : oexB K C = true) (sa : PySem.W.findIn K (.ref C) "__setattr__" = some (some (.builtin "object.__setattr__"))) (exC : PySem.W.subIn K (.ref C) (.type "BaseException") = some true) (tyC : PySem.W.typeIn K (.ref C) = some (.type "type")) (kC : PySem.W.keepIn K (.ref C) = true) : OexC K C := by
  refine ⟨?_, sa, exC, tyC, kC⟩
  unfold oexB at q
  split at q
  · rename_i dd cd sl ho
    split at q
    · rename_i C' bm k0 k1 k2 k3 n k5 hm hs
      simp only [Bool.and_eq_true, beq_iff_eq, Bool.not_eq_true'] at q
      obtain ⟨⟨⟨⟨rfl, rfl⟩, hdel⟩, hdi⟩, ht⟩ := q
      obtain ⟨nm, bs, mro, ns, qn, hd, sn, sub, ab, col, del⟩ := cd
      dsimp only at hm hdel hdi
      subst hm hdel hdi
      have hsl : sl = #[k0, k1, k2, k3, some (.builtin "ValueError.__new__"), k5] := by
        obtain ⟨l⟩ := sl
        simp only at hs
        rw [hs]
      subst hsl
      exact ⟨nm, qn, ns, bs, bm, sn, sub, ab, col, dd, k0, k1, k2, k3, k5, ho, ht⟩
    · cases q
  · cases q
end
end SR
set_option maxRecDepth 100000
set_option maxHeartbeats 4000000
namespace SR
open PySem PySem.Spec PyProof.Rows L2 Evl
/-! ### the end: what the top leaves -/
theorem all_mk {l : PySem.W.OpenLaw} {w : World} {K : PySem.W.Frag} {h : Heap} {mg : Str → Option Value} {CE0 : Addr} {CE1 : Addr} {CE10 : Addr} {CE11 : Addr} {CE12 : Addr} {CE13 : Addr} {CE14 : Addr} {CE15 : Addr} {CE16 : Addr} {CE17 : Addr} {CE18 : Addr} {CE19 : Addr} {CE2 : Addr} {CE20 : Addr} {CE21 : Addr} {CE22 : Addr} {CE23 : Addr} {CE3 : Addr} {CE4 : Addr} {CE5 : Addr} {CE6 : Addr} {CE7 : Addr} {CE8 : Addr} {CE9 : Addr} {CS fa : Addr} {fIE0 : Addr} {fIE1 : Addr} {fIE2 : Addr} {fIE3 : Addr} {fIE4 : Addr} {fIE5 : Addr} {fIE6 : Addr} {fIE7 : Addr} {fIE8 : Addr} {fIE9 : Addr} {fLB : Addr} {fLC : Addr} {fLF : Addr} {fLL : Addr} {fLO : Addr} {fLP : Addr} {fLT : Addr} {fLW : Addr} {slIE0 : Array (Option Value)} {slIE1 : Array (Option Value)} {slIE2 : Array (Option Value)} {slIE3 : Array (Option Value)} {slIE4 : Array (Option Value)} {slIE5 : Array (Option Value)} {slIE6 : Array (Option Value)} {slIE7 : Array (Option Value)} {slIE8 : Array (Option Value)} {slIE9 : Array (Option Value)} {slLB : Array (Option Value)} {slLC : Array (Option Value)} {slLF : Array (Option Value)} {slLL : Array (Option Value)} {slLO : Array (Option Value)} {slLP : Array (Option Value)} {slLT : Array (Option Value)} {slLW : Array (Option Value)} {odIE0 anIE0 : Option Addr} {odIE1 anIE1 : Option Addr} {odIE2 anIE2 : Option Addr} {odIE3 anIE3 : Option Addr} {odIE4 anIE4 : Option Addr} {odIE5 anIE5 : Option Addr} {odIE6 anIE6 : Option Addr} {odIE7 anIE7 : Option Addr} {odIE8 anIE8 : Option Addr} {odIE9 anIE9 : Option Addr} {odLB anLB : Option Addr} {odLC anLC : Option Addr} {odLF anLF : Option Addr} {odLL anLL : Option Addr} {odLO anLO : Option Addr} {odLP anLP : Option Addr} {odLT anLT : Option Addr} {odLW anLW : Option Addr} {ocIE0 kVIE0 dcIE0 pmIE0 cdIE0 ctIE0 : Value} {ocIE1 kVIE1 dcIE1 pmIE1 cdIE1 ctIE1 : Value} {ocIE2 kVIE2 dcIE2 pmIE2 cdIE2 ctIE2 : Value} {ocIE3 kVIE3 dcIE3 pmIE3 cdIE3 ctIE3 : Value} {ocIE4 kVIE4 dcIE4 pmIE4 cdIE4 ctIE4 : Value} {ocIE5 kVIE5 dcIE5 pmIE5 cdIE5 ctIE5 : Value} {ocIE6 kVIE6 dcIE6 pmIE6 cdIE6 ctIE6 : Value} {ocIE7 kVIE7 dcIE7 pmIE7 cdIE7 ctIE7 : Value} {ocIE8 kVIE8 dcIE8 pmIE8 cdIE8 ctIE8 : Value} {ocIE9 kVIE9 dcIE9 pmIE9 cdIE9 ctIE9 : Value} {ocLB kVLB dcLB pmLB cdLB ctLB : Value} {ocLC kVLC dcLC pmLC cdLC ctLC : Value} {ocLF kVLF dcLF pmLF cdLF ctLF : Value} {ocLL kVLL dcLL pmLL cdLL ctLL : Value} {ocLO kVLO dcLO pmLO cdLO ctLO : Value} {ocLP kVLP dcLP pmLP cdLP ctLP : Value} {ocLT kVLT dcLT pmLT cdLT ctLT : Value} {ocLW kVLW dcLW pmLW cdLW ctLW : Value} (X : K.In h) (G : h.Ns mainGlobals mg) (hfa : mg "law" = some (.ref fa))
    (z_len : PySem.W.nsIn K mainGlobals "len" = some none)
    (z_isinstance : PySem.W.nsIn K mainGlobals "isinstance" = some none)
    (z_int : PySem.W.nsIn K mainGlobals "int" = some none)
    (z_bool : PySem.W.nsIn K mainGlobals "bool" = some none)
    (z_list : PySem.W.nsIn K mainGlobals "list" = some none)
    (z_tuple : PySem.W.nsIn K mainGlobals "tuple" = some none)
    (z_dict : PySem.W.nsIn K mainGlobals "dict" = some none)
    (z_sorted : PySem.W.nsIn K mainGlobals "sorted" = some none)
    (z_enumerate : PySem.W.nsIn K mainGlobals "enumerate" = some none)
    (z_zip : PySem.W.nsIn K mainGlobals "zip" = some none)
    (z_range : PySem.W.nsIn K mainGlobals "range" = some none)
    (z_all : PySem.W.nsIn K mainGlobals "all" = some none)
    (z_any : PySem.W.nsIn K mainGlobals "any" = some none)
    (z_reversed : PySem.W.nsIn K mainGlobals "reversed" = some none)
    (z_sum : PySem.W.nsIn K mainGlobals "sum" = some none)
    (z_min : PySem.W.nsIn K mainGlobals "min" = some none)
    (z_max : PySem.W.nsIn K mainGlobals "max" = some none)
    (z_abs : PySem.W.nsIn K mainGlobals "abs" = some none)
    (zRp : PySem.W.nsIn K mainGlobals "repr" = some none)
    (zVE : PySem.W.nsIn K mainGlobals "ValueError" = some none)
    (xS : PySem.W.nsIn K mainGlobals "SeenError" = some (some (.ref CS)))
    (xE0 : PySem.W.nsIn K mainGlobals "BadPrime" = some (some (.ref CE0)))
    (oE0 : SR.oexB K CE0 = true)
    (sE0 : PySem.W.findIn K (.ref CE0) "__setattr__" = some (some (.builtin "object.__setattr__")))
    (kE0 : PySem.W.keepIn K (.ref CE0) = true)
    (bE0 : PySem.W.subIn K (.ref CE0) (.type "BaseException") = some true)
    (tE0 : PySem.W.typeIn K (.ref CE0) = some (.type "type"))
    (noE0 : PySem.W.findIn K (.ref CE0) "prime" = some none)
    (aIE0 : PySem.W.findIn K (.ref CE0) "__init__" = some (some (.ref fIE0)))
    (tIE0 : PySem.W.typeIn K (.ref fIE0) = some (.type "function"))
    (lIE0 : K.lookup fIE0 = some ⟨ocIE0, odIE0, .func (PySem.W.fnOf "__init__" "BadPrime.__init__" (defArgs BadPrime___init___S) (defBody BadPrime___init___S) (defScope BadPrime___init___S) .none kVIE0 dcIE0 pmIE0 anIE0 cdIE0 ctIE0), slIE0⟩)
    (cIE0 : PySem.W.codeIn K cdIE0 "BadPrime.__init__" = true)
    (kIE0 : PySem.W.keepIn K (.ref fIE0) = true)
    (xE1 : PySem.W.nsIn K mainGlobals "BadTerm" = some (some (.ref CE1)))
    (oE1 : SR.oexB K CE1 = true)
    (sE1 : PySem.W.findIn K (.ref CE1) "__setattr__" = some (some (.builtin "object.__setattr__")))
    (kE1 : PySem.W.keepIn K (.ref CE1) = true)
    (bE1 : PySem.W.subIn K (.ref CE1) (.type "BaseException") = some true)
    (tE1 : PySem.W.typeIn K (.ref CE1) = some (.type "type"))
    (noE1 : PySem.W.findIn K (.ref CE1) "index" = some none)
    (aIE1 : PySem.W.findIn K (.ref CE1) "__init__" = some (some (.ref fIE1)))
    (tIE1 : PySem.W.typeIn K (.ref fIE1) = some (.type "function"))
    (lIE1 : K.lookup fIE1 = some ⟨ocIE1, odIE1, .func (PySem.W.fnOf "__init__" "BadTerm.__init__" (defArgs BadTerm___init___S) (defBody BadTerm___init___S) (defScope BadTerm___init___S) .none kVIE1 dcIE1 pmIE1 anIE1 cdIE1 ctIE1), slIE1⟩)
    (cIE1 : PySem.W.codeIn K cdIE1 "BadTerm.__init__" = true)
    (kIE1 : PySem.W.keepIn K (.ref fIE1) = true)
    (xE2 : PySem.W.nsIn K mainGlobals "BadWidth" = some (some (.ref CE2)))
    (oE2 : SR.oexB K CE2 = true)
    (sE2 : PySem.W.findIn K (.ref CE2) "__setattr__" = some (some (.builtin "object.__setattr__")))
    (kE2 : PySem.W.keepIn K (.ref CE2) = true)
    (bE2 : PySem.W.subIn K (.ref CE2) (.type "BaseException") = some true)
    (tE2 : PySem.W.typeIn K (.ref CE2) = some (.type "type"))
    (noE2 : PySem.W.findIn K (.ref CE2) "width" = some none)
    (aIE2 : PySem.W.findIn K (.ref CE2) "__init__" = some (some (.ref fIE2)))
    (tIE2 : PySem.W.typeIn K (.ref fIE2) = some (.type "function"))
    (lIE2 : K.lookup fIE2 = some ⟨ocIE2, odIE2, .func (PySem.W.fnOf "__init__" "BadWidth.__init__" (defArgs BadWidth___init___S) (defBody BadWidth___init___S) (defScope BadWidth___init___S) .none kVIE2 dcIE2 pmIE2 anIE2 cdIE2 ctIE2), slIE2⟩)
    (cIE2 : PySem.W.codeIn K cdIE2 "BadWidth.__init__" = true)
    (kIE2 : PySem.W.keepIn K (.ref fIE2) = true)
    (xE3 : PySem.W.nsIn K mainGlobals "BadRow" = some (some (.ref CE3)))
    (oE3 : SR.oexB K CE3 = true)
    (sE3 : PySem.W.findIn K (.ref CE3) "__setattr__" = some (some (.builtin "object.__setattr__")))
    (kE3 : PySem.W.keepIn K (.ref CE3) = true)
    (bE3 : PySem.W.subIn K (.ref CE3) (.type "BaseException") = some true)
    (tE3 : PySem.W.typeIn K (.ref CE3) = some (.type "type"))
    (noE3 : PySem.W.findIn K (.ref CE3) "index" = some none)
    (aIE3 : PySem.W.findIn K (.ref CE3) "__init__" = some (some (.ref fIE3)))
    (tIE3 : PySem.W.typeIn K (.ref fIE3) = some (.type "function"))
    (lIE3 : K.lookup fIE3 = some ⟨ocIE3, odIE3, .func (PySem.W.fnOf "__init__" "BadRow.__init__" (defArgs BadRow___init___S) (defBody BadRow___init___S) (defScope BadRow___init___S) .none kVIE3 dcIE3 pmIE3 anIE3 cdIE3 ctIE3), slIE3⟩)
    (cIE3 : PySem.W.codeIn K cdIE3 "BadRow.__init__" = true)
    (kIE3 : PySem.W.keepIn K (.ref fIE3) = true)
    (xE4 : PySem.W.nsIn K mainGlobals "BadCount" = some (some (.ref CE4)))
    (oE4 : SR.oexB K CE4 = true)
    (sE4 : PySem.W.findIn K (.ref CE4) "__setattr__" = some (some (.builtin "object.__setattr__")))
    (kE4 : PySem.W.keepIn K (.ref CE4) = true)
    (bE4 : PySem.W.subIn K (.ref CE4) (.type "BaseException") = some true)
    (tE4 : PySem.W.typeIn K (.ref CE4) = some (.type "type"))
    (noE4 : PySem.W.findIn K (.ref CE4) "count" = some none)
    (aIE4 : PySem.W.findIn K (.ref CE4) "__init__" = some (some (.ref fIE4)))
    (tIE4 : PySem.W.typeIn K (.ref fIE4) = some (.type "function"))
    (lIE4 : K.lookup fIE4 = some ⟨ocIE4, odIE4, .func (PySem.W.fnOf "__init__" "BadCount.__init__" (defArgs BadCount___init___S) (defBody BadCount___init___S) (defScope BadCount___init___S) .none kVIE4 dcIE4 pmIE4 anIE4 cdIE4 ctIE4), slIE4⟩)
    (cIE4 : PySem.W.codeIn K cdIE4 "BadCount.__init__" = true)
    (kIE4 : PySem.W.keepIn K (.ref fIE4) = true)
    (xE5 : PySem.W.nsIn K mainGlobals "BadPlace" = some (some (.ref CE5)))
    (oE5 : SR.oexB K CE5 = true)
    (sE5 : PySem.W.findIn K (.ref CE5) "__setattr__" = some (some (.builtin "object.__setattr__")))
    (kE5 : PySem.W.keepIn K (.ref CE5) = true)
    (bE5 : PySem.W.subIn K (.ref CE5) (.type "BaseException") = some true)
    (tE5 : PySem.W.typeIn K (.ref CE5) = some (.type "type"))
    (noE5 : PySem.W.findIn K (.ref CE5) "place" = some none)
    (aIE5 : PySem.W.findIn K (.ref CE5) "__init__" = some (some (.ref fIE5)))
    (tIE5 : PySem.W.typeIn K (.ref fIE5) = some (.type "function"))
    (lIE5 : K.lookup fIE5 = some ⟨ocIE5, odIE5, .func (PySem.W.fnOf "__init__" "BadPlace.__init__" (defArgs BadPlace___init___S) (defBody BadPlace___init___S) (defScope BadPlace___init___S) .none kVIE5 dcIE5 pmIE5 anIE5 cdIE5 ctIE5), slIE5⟩)
    (cIE5 : PySem.W.codeIn K cdIE5 "BadPlace.__init__" = true)
    (kIE5 : PySem.W.keepIn K (.ref fIE5) = true)
    (xE6 : PySem.W.nsIn K mainGlobals "BadName" = some (some (.ref CE6)))
    (oE6 : SR.oexB K CE6 = true)
    (sE6 : PySem.W.findIn K (.ref CE6) "__setattr__" = some (some (.builtin "object.__setattr__")))
    (kE6 : PySem.W.keepIn K (.ref CE6) = true)
    (bE6 : PySem.W.subIn K (.ref CE6) (.type "BaseException") = some true)
    (tE6 : PySem.W.typeIn K (.ref CE6) = some (.type "type"))
    (noE6 : PySem.W.findIn K (.ref CE6) "name" = some none)
    (aIE6 : PySem.W.findIn K (.ref CE6) "__init__" = some (some (.ref fIE6)))
    (tIE6 : PySem.W.typeIn K (.ref fIE6) = some (.type "function"))
    (lIE6 : K.lookup fIE6 = some ⟨ocIE6, odIE6, .func (PySem.W.fnOf "__init__" "BadName.__init__" (defArgs BadName___init___S) (defBody BadName___init___S) (defScope BadName___init___S) .none kVIE6 dcIE6 pmIE6 anIE6 cdIE6 ctIE6), slIE6⟩)
    (cIE6 : PySem.W.codeIn K cdIE6 "BadName.__init__" = true)
    (kIE6 : PySem.W.keepIn K (.ref fIE6) = true)
    (xE7 : PySem.W.nsIn K mainGlobals "NoName" = some (some (.ref CE7)))
    (oE7 : SR.oexB K CE7 = true)
    (sE7 : PySem.W.findIn K (.ref CE7) "__setattr__" = some (some (.builtin "object.__setattr__")))
    (kE7 : PySem.W.keepIn K (.ref CE7) = true)
    (bE7 : PySem.W.subIn K (.ref CE7) (.type "BaseException") = some true)
    (tE7 : PySem.W.typeIn K (.ref CE7) = some (.type "type"))
    (noE7 : PySem.W.findIn K (.ref CE7) "name" = some none)
    (aIE7 : PySem.W.findIn K (.ref CE7) "__init__" = some (some (.ref fIE7)))
    (tIE7 : PySem.W.typeIn K (.ref fIE7) = some (.type "function"))
    (lIE7 : K.lookup fIE7 = some ⟨ocIE7, odIE7, .func (PySem.W.fnOf "__init__" "NoName.__init__" (defArgs NoName___init___S) (defBody NoName___init___S) (defScope NoName___init___S) .none kVIE7 dcIE7 pmIE7 anIE7 cdIE7 ctIE7), slIE7⟩)
    (cIE7 : PySem.W.codeIn K cdIE7 "NoName.__init__" = true)
    (kIE7 : PySem.W.keepIn K (.ref fIE7) = true)
    (xE8 : PySem.W.nsIn K mainGlobals "BadWord" = some (some (.ref CE8)))
    (oE8 : SR.oexB K CE8 = true)
    (sE8 : PySem.W.findIn K (.ref CE8) "__setattr__" = some (some (.builtin "object.__setattr__")))
    (kE8 : PySem.W.keepIn K (.ref CE8) = true)
    (bE8 : PySem.W.subIn K (.ref CE8) (.type "BaseException") = some true)
    (tE8 : PySem.W.typeIn K (.ref CE8) = some (.type "type"))
    (noE8 : PySem.W.findIn K (.ref CE8) "word" = some none)
    (aIE8 : PySem.W.findIn K (.ref CE8) "__init__" = some (some (.ref fIE8)))
    (tIE8 : PySem.W.typeIn K (.ref fIE8) = some (.type "function"))
    (lIE8 : K.lookup fIE8 = some ⟨ocIE8, odIE8, .func (PySem.W.fnOf "__init__" "BadWord.__init__" (defArgs BadWord___init___S) (defBody BadWord___init___S) (defScope BadWord___init___S) .none kVIE8 dcIE8 pmIE8 anIE8 cdIE8 ctIE8), slIE8⟩)
    (cIE8 : PySem.W.codeIn K cdIE8 "BadWord.__init__" = true)
    (kIE8 : PySem.W.keepIn K (.ref fIE8) = true)
    (xE9 : PySem.W.nsIn K mainGlobals "BadLine" = some (some (.ref CE9)))
    (oE9 : SR.oexB K CE9 = true)
    (sE9 : PySem.W.findIn K (.ref CE9) "__setattr__" = some (some (.builtin "object.__setattr__")))
    (kE9 : PySem.W.keepIn K (.ref CE9) = true)
    (bE9 : PySem.W.subIn K (.ref CE9) (.type "BaseException") = some true)
    (tE9 : PySem.W.typeIn K (.ref CE9) = some (.type "type"))
    (noE9 : PySem.W.findIn K (.ref CE9) "index" = some none)
    (aIE9 : PySem.W.findIn K (.ref CE9) "__init__" = some (some (.ref fIE9)))
    (tIE9 : PySem.W.typeIn K (.ref fIE9) = some (.type "function"))
    (lIE9 : K.lookup fIE9 = some ⟨ocIE9, odIE9, .func (PySem.W.fnOf "__init__" "BadLine.__init__" (defArgs BadLine___init___S) (defBody BadLine___init___S) (defScope BadLine___init___S) .none kVIE9 dcIE9 pmIE9 anIE9 cdIE9 ctIE9), slIE9⟩)
    (cIE9 : PySem.W.codeIn K cdIE9 "BadLine.__init__" = true)
    (kIE9 : PySem.W.keepIn K (.ref fIE9) = true)
    (xE10 : PySem.W.nsIn K mainGlobals "UnlikePrimes" = some (some (.ref CE10)))
    (eE10 : PySem.W.excIn K CE10 [.type "ValueError", .type "Exception", .type "BaseException", .type "object"] "ValueError.__new__" = true)
    (kE10 : PySem.W.keepIn K (.ref CE10) = true)
    (bE10 : PySem.W.subIn K (.ref CE10) (.type "BaseException") = some true)
    (tE10 : PySem.W.typeIn K (.ref CE10) = some (.type "type"))
    (xE11 : PySem.W.nsIn K mainGlobals "ZeroFilter" = some (some (.ref CE11)))
    (eE11 : PySem.W.excIn K CE11 [.type "ValueError", .type "Exception", .type "BaseException", .type "object"] "ValueError.__new__" = true)
    (kE11 : PySem.W.keepIn K (.ref CE11) = true)
    (bE11 : PySem.W.subIn K (.ref CE11) (.type "BaseException") = some true)
    (tE11 : PySem.W.typeIn K (.ref CE11) = some (.type "type"))
    (xE12 : PySem.W.nsIn K mainGlobals "BadRule" = some (some (.ref CE12)))
    (eE12 : PySem.W.excIn K CE12 [.type "ValueError", .type "Exception", .type "BaseException", .type "object"] "ValueError.__new__" = true)
    (kE12 : PySem.W.keepIn K (.ref CE12) = true)
    (bE12 : PySem.W.subIn K (.ref CE12) (.type "BaseException") = some true)
    (tE12 : PySem.W.typeIn K (.ref CE12) = some (.type "type"))
    (xE13 : PySem.W.nsIn K mainGlobals "BadDigits" = some (some (.ref CE13)))
    (eE13 : PySem.W.excIn K CE13 [.type "ValueError", .type "Exception", .type "BaseException", .type "object"] "ValueError.__new__" = true)
    (kE13 : PySem.W.keepIn K (.ref CE13) = true)
    (bE13 : PySem.W.subIn K (.ref CE13) (.type "BaseException") = some true)
    (tE13 : PySem.W.typeIn K (.ref CE13) = some (.type "type"))
    (xE14 : PySem.W.nsIn K mainGlobals "UnlikeTables" = some (some (.ref CE14)))
    (eE14 : PySem.W.excIn K CE14 [.type "ValueError", .type "Exception", .type "BaseException", .type "object"] "ValueError.__new__" = true)
    (kE14 : PySem.W.keepIn K (.ref CE14) = true)
    (bE14 : PySem.W.subIn K (.ref CE14) (.type "BaseException") = some true)
    (tE14 : PySem.W.typeIn K (.ref CE14) = some (.type "type"))
    (xE15 : PySem.W.nsIn K mainGlobals "BadSequences" = some (some (.ref CE15)))
    (eE15 : PySem.W.excIn K CE15 [.type "ValueError", .type "Exception", .type "BaseException", .type "object"] "ValueError.__new__" = true)
    (kE15 : PySem.W.keepIn K (.ref CE15) = true)
    (bE15 : PySem.W.subIn K (.ref CE15) (.type "BaseException") = some true)
    (tE15 : PySem.W.typeIn K (.ref CE15) = some (.type "type"))
    (xE16 : PySem.W.nsIn K mainGlobals "NoRows" = some (some (.ref CE16)))
    (eE16 : PySem.W.excIn K CE16 [.type "ValueError", .type "Exception", .type "BaseException", .type "object"] "ValueError.__new__" = true)
    (kE16 : PySem.W.keepIn K (.ref CE16) = true)
    (bE16 : PySem.W.subIn K (.ref CE16) (.type "BaseException") = some true)
    (tE16 : PySem.W.typeIn K (.ref CE16) = some (.type "type"))
    (xE17 : PySem.W.nsIn K mainGlobals "NotCase" = some (some (.ref CE17)))
    (eE17 : PySem.W.excIn K CE17 [.type "ValueError", .type "Exception", .type "BaseException", .type "object"] "ValueError.__new__" = true)
    (kE17 : PySem.W.keepIn K (.ref CE17) = true)
    (bE17 : PySem.W.subIn K (.ref CE17) (.type "BaseException") = some true)
    (tE17 : PySem.W.typeIn K (.ref CE17) = some (.type "type"))
    (xE18 : PySem.W.nsIn K mainGlobals "UnlikeWorlds" = some (some (.ref CE18)))
    (eE18 : PySem.W.excIn K CE18 [.type "ValueError", .type "Exception", .type "BaseException", .type "object"] "ValueError.__new__" = true)
    (kE18 : PySem.W.keepIn K (.ref CE18) = true)
    (bE18 : PySem.W.subIn K (.ref CE18) (.type "BaseException") = some true)
    (tE18 : PySem.W.typeIn K (.ref CE18) = some (.type "type"))
    (xE19 : PySem.W.nsIn K mainGlobals "NotTold" = some (some (.ref CE19)))
    (eE19 : PySem.W.excIn K CE19 [.type "ValueError", .type "Exception", .type "BaseException", .type "object"] "ValueError.__new__" = true)
    (kE19 : PySem.W.keepIn K (.ref CE19) = true)
    (bE19 : PySem.W.subIn K (.ref CE19) (.type "BaseException") = some true)
    (tE19 : PySem.W.typeIn K (.ref CE19) = some (.type "type"))
    (xE20 : PySem.W.nsIn K mainGlobals "Impossible" = some (some (.ref CE20)))
    (eE20 : PySem.W.excIn K CE20 [.type "ValueError", .type "Exception", .type "BaseException", .type "object"] "ValueError.__new__" = true)
    (kE20 : PySem.W.keepIn K (.ref CE20) = true)
    (bE20 : PySem.W.subIn K (.ref CE20) (.type "BaseException") = some true)
    (tE20 : PySem.W.typeIn K (.ref CE20) = some (.type "type"))
    (xE21 : PySem.W.nsIn K mainGlobals "BadPlaces" = some (some (.ref CE21)))
    (eE21 : PySem.W.excIn K CE21 [.type "ValueError", .type "Exception", .type "BaseException", .type "object"] "ValueError.__new__" = true)
    (kE21 : PySem.W.keepIn K (.ref CE21) = true)
    (bE21 : PySem.W.subIn K (.ref CE21) (.type "BaseException") = some true)
    (tE21 : PySem.W.typeIn K (.ref CE21) = some (.type "type"))
    (xE22 : PySem.W.nsIn K mainGlobals "NothingToUndo" = some (some (.ref CE22)))
    (eE22 : PySem.W.excIn K CE22 [.type "ValueError", .type "Exception", .type "BaseException", .type "object"] "ValueError.__new__" = true)
    (kE22 : PySem.W.keepIn K (.ref CE22) = true)
    (bE22 : PySem.W.subIn K (.ref CE22) (.type "BaseException") = some true)
    (tE22 : PySem.W.typeIn K (.ref CE22) = some (.type "type"))
    (xE23 : PySem.W.nsIn K mainGlobals "BadText" = some (some (.ref CE23)))
    (eE23 : PySem.W.excIn K CE23 [.type "ValueError", .type "Exception", .type "BaseException", .type "object"] "ValueError.__new__" = true)
    (kE23 : PySem.W.keepIn K (.ref CE23) = true)
    (bE23 : PySem.W.subIn K (.ref CE23) (.type "BaseException") = some true)
    (tE23 : PySem.W.typeIn K (.ref CE23) = some (.type "type"))
    (tcn : PySem.W.specialIn K (.builtin "object.__class__") "__get__" = some (some (.builtin "getset_descriptor.__get__")))
    (tct : PySem.W.takesIn K (.builtin "object.__class__") = some true)
    (eIs : SR.erIs K [CE0, CE1, CE2, CE3, CE4, CE5, CE6, CE7, CE8, CE9, CE10, CE11, CE12, CE13, CE14, CE15, CE16, CE17, CE18, CE19, CE20, CE21, CE22, CE23] = true)
    (eKit : SR.erKit K [CE0, CE1, CE2, CE3, CE4, CE5, CE6, CE7, CE8, CE9, CE10, CE11, CE12, CE13, CE14, CE15, CE16, CE17, CE18, CE19, CE20, CE21, CE22, CE23] CS = true)
    (aLB : PySem.W.nsIn K mainGlobals "_law_box" = some (some (.ref fLB)))
    (lLB : K.lookup fLB = some ⟨ocLB, odLB, .func (PySem.W.fnOf "_law_box" "_law_box" (defArgs _law_box_S) (defBody _law_box_S) (defScope _law_box_S) .none kVLB dcLB pmLB anLB cdLB ctLB), slLB⟩)
    (cLB : PySem.W.codeIn K cdLB "_law_box" = true)
    (kLB : PySem.W.keepIn K (.ref fLB) = true)
    (aLT : PySem.W.nsIn K mainGlobals "_law_take" = some (some (.ref fLT)))
    (lLT : K.lookup fLT = some ⟨ocLT, odLT, .func (PySem.W.fnOf "_law_take" "_law_take" (defArgs _law_take_S) (defBody _law_take_S) (defScope _law_take_S) .none kVLT dcLT pmLT anLT cdLT ctLT), slLT⟩)
    (cLT : PySem.W.codeIn K cdLT "_law_take" = true)
    (kLT : PySem.W.keepIn K (.ref fLT) = true)
    (aLP : PySem.W.nsIn K mainGlobals "_law_pick" = some (some (.ref fLP)))
    (lLP : K.lookup fLP = some ⟨ocLP, odLP, .func (PySem.W.fnOf "_law_pick" "_law_pick" (defArgs _law_pick_S) (defBody _law_pick_S) (defScope _law_pick_S) .none kVLP dcLP pmLP anLP cdLP ctLP), slLP⟩)
    (cLP : PySem.W.codeIn K cdLP "_law_pick" = true)
    (kLP : PySem.W.keepIn K (.ref fLP) = true)
    (aLW : PySem.W.nsIn K mainGlobals "_law_with_fields" = some (some (.ref fLW)))
    (lLW : K.lookup fLW = some ⟨ocLW, odLW, .func (PySem.W.fnOf "_law_with_fields" "_law_with_fields" (defArgs _law_with_fields_S) (defBody _law_with_fields_S) (defScope _law_with_fields_S) .none kVLW dcLW pmLW anLW cdLW ctLW), slLW⟩)
    (cLW : PySem.W.codeIn K cdLW "_law_with_fields" = true)
    (kLW : PySem.W.keepIn K (.ref fLW) = true)
    (aLF : PySem.W.nsIn K mainGlobals "_law_fields" = some (some (.ref fLF)))
    (lLF : K.lookup fLF = some ⟨ocLF, odLF, .func (PySem.W.fnOf "_law_fields" "_law_fields" (defArgs _law_fields_S) (defBody _law_fields_S) (defScope _law_fields_S) .none kVLF dcLF pmLF anLF cdLF ctLF), slLF⟩)
    (cLF : PySem.W.codeIn K cdLF "_law_fields" = true)
    (kLF : PySem.W.keepIn K (.ref fLF) = true)
    (aLO : PySem.W.nsIn K mainGlobals "_law_plain_ones" = some (some (.ref fLO)))
    (lLO : K.lookup fLO = some ⟨ocLO, odLO, .func (PySem.W.fnOf "_law_plain_ones" "_law_plain_ones" (defArgs _law_plain_ones_S) (defBody _law_plain_ones_S) (defScope _law_plain_ones_S) .none kVLO dcLO pmLO anLO cdLO ctLO), slLO⟩)
    (cLO : PySem.W.codeIn K cdLO "_law_plain_ones" = true)
    (kLO : PySem.W.keepIn K (.ref fLO) = true)
    (aLC : PySem.W.nsIn K mainGlobals "_law_classes" = some (some (.ref fLC)))
    (lLC : K.lookup fLC = some ⟨ocLC, odLC, .func (PySem.W.fnOf "_law_classes" "_law_classes" (defArgs _law_classes_S) (defBody _law_classes_S) (defScope _law_classes_S) .none kVLC dcLC pmLC anLC cdLC ctLC), slLC⟩)
    (cLC : PySem.W.codeIn K cdLC "_law_classes" = true)
    (kLC : PySem.W.keepIn K (.ref fLC) = true)
    (aLL : PySem.W.nsIn K mainGlobals "law" = some (some (.ref fLL)))
    (lLL : K.lookup fLL = some ⟨ocLL, odLL, .func (PySem.W.fnOf "law" "law" (defArgs law_S) (defBody law_S) (defScope law_S) .none kVLL dcLL pmLL anLL cdLL ctLL), slLL⟩)
    (cLL : PySem.W.codeIn K cdLL "law" = true)
    (kLL : PySem.W.keepIn K (.ref fLL) = true) :
    ∃ fd : FuncData, (∀ (s : Shared) (v : Value), BindsTo s fd ⟨[v], []⟩ [("_law_script", v)]) ∧ ∀ base : Heap, K.In base → base.Ns mainGlobals mg → FnG l.prog w K mg base CX0 7 fa fd ["_law_script"] (spLaw27 K) := by
  have e := hfa.symm.trans (PySem.W.mg_of X G aLL)
  cases e
  have B : Bi mg := ⟨PySem.W.mg_none_of X G z_len, PySem.W.mg_none_of X G z_isinstance, PySem.W.mg_none_of X G z_int, PySem.W.mg_none_of X G z_bool, PySem.W.mg_none_of X G z_list, PySem.W.mg_none_of X G z_tuple, PySem.W.mg_none_of X G z_dict, PySem.W.mg_none_of X G z_sorted, PySem.W.mg_none_of X G z_enumerate, PySem.W.mg_none_of X G z_zip, PySem.W.mg_none_of X G z_range, PySem.W.mg_none_of X G z_all, PySem.W.mg_none_of X G z_any, PySem.W.mg_none_of X G z_reversed, PySem.W.mg_none_of X G z_sum, PySem.W.mg_none_of X G z_min, PySem.W.mg_none_of X G z_max, PySem.W.mg_none_of X G z_abs⟩
  have FLB := fun_mk (st := _law_box_S) lLB cLB kLB
  have bLB := FLB.binds (ps := ["_law_script"]) fun _ _ _ _ _ _ us hl => match us, hl with | [_], _ => rfl
  have FLT := fun_mk (st := _law_take_S) lLT cLT kLT
  have bLT := FLT.binds (ps := ["_law_box_here", "_law_size"]) fun _ _ _ _ _ _ us hl => match us, hl with | [_, _], _ => rfl
  have FLP := fun_mk (st := _law_pick_S) lLP cLP kLP
  have bLP := FLP.binds (ps := ["_law_box_here", "_law_things"]) fun _ _ _ _ _ _ us hl => match us, hl with | [_, _], _ => rfl
  have FLW := fun_mk (st := _law_with_fields_S) lLW cLW kLW
  have bLW := FLW.binds (ps := ["_law_thing"]) fun _ _ _ _ _ _ us hl => match us, hl with | [_], _ => rfl
  have FLF := fun_mk (st := _law_fields_S) lLF cLF kLF
  have bLF := FLF.binds (ps := ["_law_e"]) fun _ _ _ _ _ _ us hl => match us, hl with | [_], _ => rfl
  have FLO := fun_mk (st := _law_plain_ones_S) lLO cLO kLO
  have bLO := FLO.binds (ps := []) fun _ _ _ _ _ _ us hl => match us, hl with | [], _ => rfl
  have FLC := fun_mk (st := _law_classes_S) lLC cLC kLC
  have bLC := FLC.binds (ps := ["_law_e"]) fun _ _ _ _ _ _ us hl => match us, hl with | [_], _ => rfl
  have FLL := fun_mk (st := law_S) lLL cLL kLL
  have bLL := FLL.binds (ps := ["_law_script"]) fun _ _ _ _ _ _ us hl => match us, hl with | [_], _ => rfl
  refine ⟨PySem.W.fnOf "law" "law" (defArgs law_S) (defBody law_S) (defScope law_S) .none kVLL dcLL pmLL anLL cdLL ctLL, fun s v => .of_eq rfl, fun base _ _ => ?_⟩
  have FIE0 := fun_mk (st := BadPrime___init___S) lIE0 cIE0 kIE0
  have bIE0 := FIE0.binds (ps := ["self", "prime"]) fun _ _ _ _ _ _ us hl => match us, hl with | [_, _], _ => rfl
  have TE0 : OexC K CE0 := oexB_ok oE0 sE0 bE0 tE0 kE0
  have WE0 : OwnE l.prog w K mg base "BadPrime" "prime" CE0 := ⟨⟨TE0, PySem.W.mg_of X G xE0, noE0, _, _, aIE0, tIE0, bIE0, ok_ini0 FIE0 TE0 noE0⟩, ⟨_, _, aIE0, tIE0, ok_ini0 FIE0 TE0 noE0, fun s u z => .of_eq rfl⟩⟩
  have FIE1 := fun_mk (st := BadTerm___init___S) lIE1 cIE1 kIE1
  have bIE1 := FIE1.binds (ps := ["self", "index"]) fun _ _ _ _ _ _ us hl => match us, hl with | [_, _], _ => rfl
  have TE1 : OexC K CE1 := oexB_ok oE1 sE1 bE1 tE1 kE1
  have WE1 : OwnE l.prog w K mg base "BadTerm" "index" CE1 := ⟨⟨TE1, PySem.W.mg_of X G xE1, noE1, _, _, aIE1, tIE1, bIE1, ok_ini1 FIE1 TE1 noE1⟩, ⟨_, _, aIE1, tIE1, ok_ini1 FIE1 TE1 noE1, fun s u z => .of_eq rfl⟩⟩
  have FIE2 := fun_mk (st := BadWidth___init___S) lIE2 cIE2 kIE2
  have bIE2 := FIE2.binds (ps := ["self", "width"]) fun _ _ _ _ _ _ us hl => match us, hl with | [_, _], _ => rfl
  have TE2 : OexC K CE2 := oexB_ok oE2 sE2 bE2 tE2 kE2
  have WE2 : OwnE l.prog w K mg base "BadWidth" "width" CE2 := ⟨⟨TE2, PySem.W.mg_of X G xE2, noE2, _, _, aIE2, tIE2, bIE2, ok_ini2 FIE2 TE2 noE2⟩, ⟨_, _, aIE2, tIE2, ok_ini2 FIE2 TE2 noE2, fun s u z => .of_eq rfl⟩⟩
  have FIE3 := fun_mk (st := BadRow___init___S) lIE3 cIE3 kIE3
  have bIE3 := FIE3.binds (ps := ["self", "index"]) fun _ _ _ _ _ _ us hl => match us, hl with | [_, _], _ => rfl
  have TE3 : OexC K CE3 := oexB_ok oE3 sE3 bE3 tE3 kE3
  have WE3 : OwnE l.prog w K mg base "BadRow" "index" CE3 := ⟨⟨TE3, PySem.W.mg_of X G xE3, noE3, _, _, aIE3, tIE3, bIE3, ok_ini3 FIE3 TE3 noE3⟩, ⟨_, _, aIE3, tIE3, ok_ini3 FIE3 TE3 noE3, fun s u z => .of_eq rfl⟩⟩
  have FIE4 := fun_mk (st := BadCount___init___S) lIE4 cIE4 kIE4
  have bIE4 := FIE4.binds (ps := ["self", "count"]) fun _ _ _ _ _ _ us hl => match us, hl with | [_, _], _ => rfl
  have TE4 : OexC K CE4 := oexB_ok oE4 sE4 bE4 tE4 kE4
  have WE4 : OwnE l.prog w K mg base "BadCount" "count" CE4 := ⟨⟨TE4, PySem.W.mg_of X G xE4, noE4, _, _, aIE4, tIE4, bIE4, ok_ini4 FIE4 TE4 noE4⟩, ⟨_, _, aIE4, tIE4, ok_ini4 FIE4 TE4 noE4, fun s u z => .of_eq rfl⟩⟩
  have FIE5 := fun_mk (st := BadPlace___init___S) lIE5 cIE5 kIE5
  have bIE5 := FIE5.binds (ps := ["self", "place"]) fun _ _ _ _ _ _ us hl => match us, hl with | [_, _], _ => rfl
  have TE5 : OexC K CE5 := oexB_ok oE5 sE5 bE5 tE5 kE5
  have WE5 : OwnE l.prog w K mg base "BadPlace" "place" CE5 := ⟨⟨TE5, PySem.W.mg_of X G xE5, noE5, _, _, aIE5, tIE5, bIE5, ok_ini5 FIE5 TE5 noE5⟩, ⟨_, _, aIE5, tIE5, ok_ini5 FIE5 TE5 noE5, fun s u z => .of_eq rfl⟩⟩
  have FIE6 := fun_mk (st := BadName___init___S) lIE6 cIE6 kIE6
  have bIE6 := FIE6.binds (ps := ["self", "name"]) fun _ _ _ _ _ _ us hl => match us, hl with | [_, _], _ => rfl
  have TE6 : OexC K CE6 := oexB_ok oE6 sE6 bE6 tE6 kE6
  have WE6 : OwnE l.prog w K mg base "BadName" "name" CE6 := ⟨⟨TE6, PySem.W.mg_of X G xE6, noE6, _, _, aIE6, tIE6, bIE6, ok_ini6 FIE6 TE6 noE6⟩, ⟨_, _, aIE6, tIE6, ok_ini6 FIE6 TE6 noE6, fun s u z => .of_eq rfl⟩⟩
  have FIE7 := fun_mk (st := NoName___init___S) lIE7 cIE7 kIE7
  have bIE7 := FIE7.binds (ps := ["self", "name"]) fun _ _ _ _ _ _ us hl => match us, hl with | [_, _], _ => rfl
  have TE7 : OexC K CE7 := oexB_ok oE7 sE7 bE7 tE7 kE7
  have WE7 : OwnE l.prog w K mg base "NoName" "name" CE7 := ⟨⟨TE7, PySem.W.mg_of X G xE7, noE7, _, _, aIE7, tIE7, bIE7, ok_ini7 FIE7 TE7 noE7⟩, ⟨_, _, aIE7, tIE7, ok_ini7 FIE7 TE7 noE7, fun s u z => .of_eq rfl⟩⟩
  have FIE8 := fun_mk (st := BadWord___init___S) lIE8 cIE8 kIE8
  have bIE8 := FIE8.binds (ps := ["self", "word"]) fun _ _ _ _ _ _ us hl => match us, hl with | [_, _], _ => rfl
  have TE8 : OexC K CE8 := oexB_ok oE8 sE8 bE8 tE8 kE8
  have WE8 : OwnE l.prog w K mg base "BadWord" "word" CE8 := ⟨⟨TE8, PySem.W.mg_of X G xE8, noE8, _, _, aIE8, tIE8, bIE8, ok_ini8 FIE8 TE8 noE8⟩, ⟨_, _, aIE8, tIE8, ok_ini8 FIE8 TE8 noE8, fun s u z => .of_eq rfl⟩⟩
  have FIE9 := fun_mk (st := BadLine___init___S) lIE9 cIE9 kIE9
  have bIE9 := FIE9.binds (ps := ["self", "index"]) fun _ _ _ _ _ _ us hl => match us, hl with | [_, _], _ => rfl
  have TE9 : OexC K CE9 := oexB_ok oE9 sE9 bE9 tE9 kE9
  have WE9 : OwnE l.prog w K mg base "BadLine" "index" CE9 := ⟨⟨TE9, PySem.W.mg_of X G xE9, noE9, _, _, aIE9, tIE9, bIE9, ok_ini9 FIE9 TE9 noE9⟩, ⟨_, _, aIE9, tIE9, ok_ini9 FIE9 TE9 noE9, fun s u z => .of_eq rfl⟩⟩
  have WE10 : ExP K mg "UnlikePrimes" CE10 := ⟨PySem.W.mg_of X G xE10, eE10, kE10, bE10, tE10⟩
  have WE11 : ExP K mg "ZeroFilter" CE11 := ⟨PySem.W.mg_of X G xE11, eE11, kE11, bE11, tE11⟩
  have WE12 : ExP K mg "BadRule" CE12 := ⟨PySem.W.mg_of X G xE12, eE12, kE12, bE12, tE12⟩
  have WE13 : ExP K mg "BadDigits" CE13 := ⟨PySem.W.mg_of X G xE13, eE13, kE13, bE13, tE13⟩
  have WE14 : ExP K mg "UnlikeTables" CE14 := ⟨PySem.W.mg_of X G xE14, eE14, kE14, bE14, tE14⟩
  have WE15 : ExP K mg "BadSequences" CE15 := ⟨PySem.W.mg_of X G xE15, eE15, kE15, bE15, tE15⟩
  have WE16 : ExP K mg "NoRows" CE16 := ⟨PySem.W.mg_of X G xE16, eE16, kE16, bE16, tE16⟩
  have WE17 : ExP K mg "NotCase" CE17 := ⟨PySem.W.mg_of X G xE17, eE17, kE17, bE17, tE17⟩
  have WE18 : ExP K mg "UnlikeWorlds" CE18 := ⟨PySem.W.mg_of X G xE18, eE18, kE18, bE18, tE18⟩
  have WE19 : ExP K mg "NotTold" CE19 := ⟨PySem.W.mg_of X G xE19, eE19, kE19, bE19, tE19⟩
  have WE20 : ExP K mg "Impossible" CE20 := ⟨PySem.W.mg_of X G xE20, eE20, kE20, bE20, tE20⟩
  have WE21 : ExP K mg "BadPlaces" CE21 := ⟨PySem.W.mg_of X G xE21, eE21, kE21, bE21, tE21⟩
  have WE22 : ExP K mg "NothingToUndo" CE22 := ⟨PySem.W.mg_of X G xE22, eE22, kE22, bE22, tE22⟩
  have WE23 : ExP K mg "BadText" CE23 := ⟨PySem.W.mg_of X G xE23, eE23, kE23, bE23, tE23⟩
  have TT9 : ErAll l.prog w K mg base (fun i => ([CE0, CE1, CE2, CE3, CE4, CE5, CE6, CE7, CE8, CE9, CE10, CE11, CE12, CE13, CE14, CE15, CE16, CE17, CE18, CE19, CE20, CE21, CE22, CE23] : List Addr).getD i 0) CS := by
    refine ⟨fun i x f h => ?_, fun i x h => ?_, fun i hi => erIs_ok eIs tcn tct hi, fun i j hi hj => (erKit_ok eKit hi).2.2 j hj, fun i hi => (erKit_ok eKit hi).1, fun i hi => (erKit_ok eKit hi).2.1, PySem.W.mg_of X G xS⟩
    · exact match i, h with
    | 0, h => by have h9 := er_0.symm.trans h; cases h9; exact WE0
    | 1, h => by have h9 := er_1.symm.trans h; cases h9; exact WE1
    | 2, h => by have h9 := er_2.symm.trans h; cases h9; exact WE2
    | 3, h => by have h9 := er_3.symm.trans h; cases h9; exact WE3
    | 4, h => by have h9 := er_4.symm.trans h; cases h9; exact WE4
    | 5, h => by have h9 := er_5.symm.trans h; cases h9; exact WE5
    | 6, h => by have h9 := er_6.symm.trans h; cases h9; exact WE6
    | 7, h => by have h9 := er_7.symm.trans h; cases h9; exact WE7
    | 8, h => by have h9 := er_8.symm.trans h; cases h9; exact WE8
    | 9, h => by have h9 := er_9.symm.trans h; cases h9; exact WE9
    | 10, h => by have h9 := er_10.symm.trans h; cases h9
    | 11, h => by have h9 := er_11.symm.trans h; cases h9
    | 12, h => by have h9 := er_12.symm.trans h; cases h9
    | 13, h => by have h9 := er_13.symm.trans h; cases h9
    | 14, h => by have h9 := er_14.symm.trans h; cases h9
    | 15, h => by have h9 := er_15.symm.trans h; cases h9
    | 16, h => by have h9 := er_16.symm.trans h; cases h9
    | 17, h => by have h9 := er_17.symm.trans h; cases h9
    | 18, h => by have h9 := er_18.symm.trans h; cases h9
    | 19, h => by have h9 := er_19.symm.trans h; cases h9
    | 20, h => by have h9 := er_20.symm.trans h; cases h9
    | 21, h => by have h9 := er_21.symm.trans h; cases h9
    | 22, h => by have h9 := er_22.symm.trans h; cases h9
    | 23, h => by have h9 := er_23.symm.trans h; cases h9
    | i + 24, h => absurd (List.getElem?_eq_some_iff.mp h).1 (by show ¬ (i + 24 < 24); omega)
    · exact match i, h with
    | 0, h => by have h9 := er_0.symm.trans h; cases h9
    | 1, h => by have h9 := er_1.symm.trans h; cases h9
    | 2, h => by have h9 := er_2.symm.trans h; cases h9
    | 3, h => by have h9 := er_3.symm.trans h; cases h9
    | 4, h => by have h9 := er_4.symm.trans h; cases h9
    | 5, h => by have h9 := er_5.symm.trans h; cases h9
    | 6, h => by have h9 := er_6.symm.trans h; cases h9
    | 7, h => by have h9 := er_7.symm.trans h; cases h9
    | 8, h => by have h9 := er_8.symm.trans h; cases h9
    | 9, h => by have h9 := er_9.symm.trans h; cases h9
    | 10, h => by have h9 := er_10.symm.trans h; cases h9; exact WE10
    | 11, h => by have h9 := er_11.symm.trans h; cases h9; exact WE11
    | 12, h => by have h9 := er_12.symm.trans h; cases h9; exact WE12
    | 13, h => by have h9 := er_13.symm.trans h; cases h9; exact WE13
    | 14, h => by have h9 := er_14.symm.trans h; cases h9; exact WE14
    | 15, h => by have h9 := er_15.symm.trans h; cases h9; exact WE15
    | 16, h => by have h9 := er_16.symm.trans h; cases h9; exact WE16
    | 17, h => by have h9 := er_17.symm.trans h; cases h9; exact WE17
    | 18, h => by have h9 := er_18.symm.trans h; cases h9; exact WE18
    | 19, h => by have h9 := er_19.symm.trans h; cases h9; exact WE19
    | 20, h => by have h9 := er_20.symm.trans h; cases h9; exact WE20
    | 21, h => by have h9 := er_21.symm.trans h; cases h9; exact WE21
    | 22, h => by have h9 := er_22.symm.trans h; cases h9; exact WE22
    | 23, h => by have h9 := er_23.symm.trans h; cases h9; exact WE23
    | i + 24, h => absurd (List.getElem?_eq_some_iff.mp h).1 (by show ¬ (i + 24 < 24); omega)
  have dd := @defOk l.prog w K mg base
  have hLB := dd FLB (PySem.W.mg_of X G aLB) (ok_spring FLB B) bLB
  have hLT := dd FLT (PySem.W.mg_of X G aLT) (ok_takeR FLT B) bLT
  have hLP := dd FLP (PySem.W.mg_of X G aLP) (ok_pickV FLP B hLT) bLP
  have hLW := dd FLW (PySem.W.mg_of X G aLW) (ok_with FLW B TT9) bLW
  have hLF := dd FLF (PySem.W.mg_of X G aLF) (ok_fields FLF B TT9) bLF
  have hLO := dd FLO (PySem.W.mg_of X G aLO) (ok_plain FLO B TT9) bLO
  have hLC := dd FLC (PySem.W.mg_of X G aLC) (ok_classes FLC B TT9) bLC
  exact ok_law FLL B TT9 (PySem.W.mg_none_of X G zRp) (PySem.W.mg_none_of X G zVE) hLB hLT hLP hLW hLF hLO hLC
theorem walk {l : PySem.W.OpenLaw} {q : Program} {loose : List Str} {XP : (Str → Option Value) → Heap → Prop} {YP : World → Heap → Prop} {d : DefRec} {K : Params → PySem.W.Frag} (hn : l.most = some 63) (hdf : d.params.defaults = [])
    (hY : ∀ (w : World) (h : Heap), YP w h → (K w.params).In h)
    (F : ∀ (w : World) (mg : Str → Option Value) (fa : Addr) (h : Heap), (K w.params).In h → h.Ns mainGlobals mg → mg d.name = some (.ref fa) →
      ∃ fd : FuncData, (∀ (s : Shared) (u : Value), BindsTo s fd ⟨[u], []⟩ [("_law_script", u)]) ∧ ∀ base : Heap, (K w.params).In base → base.Ns mainGlobals mg → FnG l.prog w (K w.params) mg base CX0 7 fa fd ["_law_script"] (spLaw27 (K w.params))) :
    PySem.W.WalkO q loose XP YP l.row.toRowW d [] (fun f vs => PySem.call f vs) :=
  SR.walk_ofG (n := 63) (k := 7) (x := "_law_script") (CX := fun _ => CX0) (sp := fun w => spLaw27 (K w.params)) hn (by decide) hdf ⟨rfl, by decide, by decide⟩ hY F (fun _ _ a ns hl _ hS => ⟨a, ns, rfl, hS, hl, fun _ => rfl⟩) fun _ _ _ _ _ z => z
end SR
set_option maxRecDepth 100000
open PySem PySem.W PyProof.Rows
set_option maxRecDepth 100000 in
set_option maxHeartbeats 0 in
theorem PySem.Challenge.cw_seenrows_k27_errors_made_holds : PySem.Challenge.rw_seenrows_k27_errors_made.Holds := by
  w_on; o_law
  refine HeadRun.head_any (r := (PySem.W.OpenLaw.row PySem.Challenge.rw_seenrows_k27_errors_made)) (q := SR.VV) (H := kHook SR.KK SR.KA SR.kk_as) (ob := fun s => SR.KA.map (HeadRun.getT s)) (M := 5984) (loose := SR.LO) (d := HeadRun.topDef (PySem.W.OpenLaw.row PySem.Challenge.rw_seenrows_k27_errors_made).prog 34) (kwd := []) SR.ob_eq
    (by kernel_rfl) (fun s => by kernel_rfl) SR.run_all (by kernel_rfl) (by kernel_rfl) (by kernel_rfl) (by rfl) (by first | assumption | decide +kernel) (by decide +kernel) ⟨rfl, rfl, rfl, rfl, rfl, by decide +kernel⟩ ?hw ?hc
  case hw => w_witness2
  case hc =>
    k_fill
    refine SR.walk (l := PySem.Challenge.rw_seenrows_k27_errors_made) rfl rfl (fun w h Y => PySem.W.kIn_of Y) ?F
    case F =>
      intro w mg fa h KX G hmg
      refine' SR.all_mk KX G hmg ?z_len ?z_isinstance ?z_int ?z_bool ?z_list ?z_tuple ?z_dict ?z_sorted ?z_enumerate ?z_zip ?z_range ?z_all ?z_any ?z_reversed ?z_sum ?z_min ?z_max ?z_abs ?zRp ?zVE ?xS ?xE0 ?oE0 ?sE0 ?kE0 ?bE0 ?tE0 ?noE0 ?aIE0 ?tIE0 ?lIE0 ?cIE0 ?kIE0 ?xE1 ?oE1 ?sE1 ?kE1 ?bE1 ?tE1 ?noE1 ?aIE1 ?tIE1 ?lIE1 ?cIE1 ?kIE1 ?xE2 ?oE2 ?sE2 ?kE2 ?bE2 ?tE2 ?noE2 ?aIE2 ?tIE2 ?lIE2 ?cIE2 ?kIE2 ?xE3 ?oE3 ?sE3 ?kE3 ?bE3 ?tE3 ?noE3 ?aIE3 ?tIE3 ?lIE3 ?cIE3 ?kIE3 ?xE4 ?oE4 ?sE4 ?kE4 ?bE4 ?tE4 ?noE4 ?aIE4 ?tIE4 ?lIE4 ?cIE4 ?kIE4 ?xE5 ?oE5 ?sE5 ?kE5 ?bE5 ?tE5 ?noE5 ?aIE5 ?tIE5 ?lIE5 ?cIE5 ?kIE5 ?xE6 ?oE6 ?sE6 ?kE6 ?bE6 ?tE6 ?noE6 ?aIE6 ?tIE6 ?lIE6 ?cIE6 ?kIE6 ?xE7 ?oE7 ?sE7 ?kE7 ?bE7 ?tE7 ?noE7 ?aIE7 ?tIE7 ?lIE7 ?cIE7 ?kIE7 ?xE8 ?oE8 ?sE8 ?kE8 ?bE8 ?tE8 ?noE8 ?aIE8 ?tIE8 ?lIE8 ?cIE8 ?kIE8 ?xE9 ?oE9 ?sE9 ?kE9 ?bE9 ?tE9 ?noE9 ?aIE9 ?tIE9 ?lIE9 ?cIE9 ?kIE9 ?xE10 ?eE10 ?kE10 ?bE10 ?tE10 ?xE11 ?eE11 ?kE11 ?bE11 ?tE11 ?xE12 ?eE12 ?kE12 ?bE12 ?tE12 ?xE13 ?eE13 ?kE13 ?bE13 ?tE13 ?xE14 ?eE14 ?kE14 ?bE14 ?tE14 ?xE15 ?eE15 ?kE15 ?bE15 ?tE15 ?xE16 ?eE16 ?kE16 ?bE16 ?tE16 ?xE17 ?eE17 ?kE17 ?bE17 ?tE17 ?xE18 ?eE18 ?kE18 ?bE18 ?tE18 ?xE19 ?eE19 ?kE19 ?bE19 ?tE19 ?xE20 ?eE20 ?kE20 ?bE20 ?tE20 ?xE21 ?eE21 ?kE21 ?bE21 ?tE21 ?xE22 ?eE22 ?kE22 ?bE22 ?tE22 ?xE23 ?eE23 ?kE23 ?bE23 ?tE23 ?tcn ?tct ?eIs ?eKit ?aLB ?lLB ?cLB ?kLB ?aLT ?lLT ?cLT ?kLT ?aLP ?lLP ?cLP ?kLP ?aLW ?lLW ?cLW ?kLW ?aLF ?lLF ?cLF ?kLF ?aLO ?lLO ?cLO ?kLO ?aLC ?lLC ?cLC ?kLC ?aLL ?lLL ?cLL ?kLL
      (case z_len => k_is)
      (case z_isinstance => k_is)
      (case z_int => k_is)
      (case z_bool => k_is)
      (case z_list => k_is)
      (case z_tuple => k_is)
      (case z_dict => k_is)
      (case z_sorted => k_is)
      (case z_enumerate => k_is)
      (case z_zip => k_is)
      (case z_range => k_is)
      (case z_all => k_is)
      (case z_any => k_is)
      (case z_reversed => k_is)
      (case z_sum => k_is)
      (case z_min => k_is)
      (case z_max => k_is)
      (case z_abs => k_is)
      (case zRp => k_is)
      (case zVE => k_is)
      (case xS => k_is)
      (case xE0 => k_is)
      (case oE0 => first | rfl | kernel_rfl | decide +kernel)
      (case sE0 => k_is)
      (case kE0 => k_is)
      (case bE0 => k_is)
      (case tE0 => k_is)
      (case noE0 => k_is)
      (case aIE0 => k_is)
      (case tIE0 => k_is)
      (case lIE0 => k_is)
      (case cIE0 => k_is)
      (case kIE0 => k_is)
      (case xE1 => k_is)
      (case oE1 => first | rfl | kernel_rfl | decide +kernel)
      (case sE1 => k_is)
      (case kE1 => k_is)
      (case bE1 => k_is)
      (case tE1 => k_is)
      (case noE1 => k_is)
      (case aIE1 => k_is)
      (case tIE1 => k_is)
      (case lIE1 => k_is)
      (case cIE1 => k_is)
      (case kIE1 => k_is)
      (case xE2 => k_is)
      (case oE2 => first | rfl | kernel_rfl | decide +kernel)
      (case sE2 => k_is)
      (case kE2 => k_is)
      (case bE2 => k_is)
      (case tE2 => k_is)
      (case noE2 => k_is)
      (case aIE2 => k_is)
      (case tIE2 => k_is)
      (case lIE2 => k_is)
      (case cIE2 => k_is)
      (case kIE2 => k_is)
      (case xE3 => k_is)
      (case oE3 => first | rfl | kernel_rfl | decide +kernel)
      (case sE3 => k_is)
      (case kE3 => k_is)
      (case bE3 => k_is)
      (case tE3 => k_is)
      (case noE3 => k_is)
      (case aIE3 => k_is)
      (case tIE3 => k_is)
      (case lIE3 => k_is)
      (case cIE3 => k_is)
      (case kIE3 => k_is)
      (case xE4 => k_is)
      (case oE4 => first | rfl | kernel_rfl | decide +kernel)
      (case sE4 => k_is)
      (case kE4 => k_is)
      (case bE4 => k_is)
      (case tE4 => k_is)
      (case noE4 => k_is)
      (case aIE4 => k_is)
      (case tIE4 => k_is)
      (case lIE4 => k_is)
      (case cIE4 => k_is)
      (case kIE4 => k_is)
      (case xE5 => k_is)
      (case oE5 => first | rfl | kernel_rfl | decide +kernel)
      (case sE5 => k_is)
      (case kE5 => k_is)
      (case bE5 => k_is)
      (case tE5 => k_is)
      (case noE5 => k_is)
      (case aIE5 => k_is)
      (case tIE5 => k_is)
      (case lIE5 => k_is)
      (case cIE5 => k_is)
      (case kIE5 => k_is)
      (case xE6 => k_is)
      (case oE6 => first | rfl | kernel_rfl | decide +kernel)
      (case sE6 => k_is)
      (case kE6 => k_is)
      (case bE6 => k_is)
      (case tE6 => k_is)
      (case noE6 => k_is)
      (case aIE6 => k_is)
      (case tIE6 => k_is)
      (case lIE6 => k_is)
      (case cIE6 => k_is)
      (case kIE6 => k_is)
      (case xE7 => k_is)
      (case oE7 => first | rfl | kernel_rfl | decide +kernel)
      (case sE7 => k_is)
      (case kE7 => k_is)
      (case bE7 => k_is)
      (case tE7 => k_is)
      (case noE7 => k_is)
      (case aIE7 => k_is)
      (case tIE7 => k_is)
      (case lIE7 => k_is)
      (case cIE7 => k_is)
      (case kIE7 => k_is)
      (case xE8 => k_is)
      (case oE8 => first | rfl | kernel_rfl | decide +kernel)
      (case sE8 => k_is)
      (case kE8 => k_is)
      (case bE8 => k_is)
      (case tE8 => k_is)
      (case noE8 => k_is)
      (case aIE8 => k_is)
      (case tIE8 => k_is)
      (case lIE8 => k_is)
      (case cIE8 => k_is)
      (case kIE8 => k_is)
      (case xE9 => k_is)
      (case oE9 => first | rfl | kernel_rfl | decide +kernel)
      (case sE9 => k_is)
      (case kE9 => k_is)
      (case bE9 => k_is)
      (case tE9 => k_is)
      (case noE9 => k_is)
      (case aIE9 => k_is)
      (case tIE9 => k_is)
      (case lIE9 => k_is)
      (case cIE9 => k_is)
      (case kIE9 => k_is)
      (case xE10 => k_is)
      (case eE10 => k_exc)
      (case kE10 => k_is)
      (case bE10 => k_is)
      (case tE10 => k_is)
      (case xE11 => k_is)
      (case eE11 => k_exc)
      (case kE11 => k_is)
      (case bE11 => k_is)
      (case tE11 => k_is)
      (case xE12 => k_is)
      (case eE12 => k_exc)
      (case kE12 => k_is)
      (case bE12 => k_is)
      (case tE12 => k_is)
      (case xE13 => k_is)
      (case eE13 => k_exc)
      (case kE13 => k_is)
      (case bE13 => k_is)
      (case tE13 => k_is)
      (case xE14 => k_is)
      (case eE14 => k_exc)
      (case kE14 => k_is)
      (case bE14 => k_is)
      (case tE14 => k_is)
      (case xE15 => k_is)
      (case eE15 => k_exc)
      (case kE15 => k_is)
      (case bE15 => k_is)
      (case tE15 => k_is)
      (case xE16 => k_is)
      (case eE16 => k_exc)
      (case kE16 => k_is)
      (case bE16 => k_is)
      (case tE16 => k_is)
      (case xE17 => k_is)
      (case eE17 => k_exc)
      (case kE17 => k_is)
      (case bE17 => k_is)
      (case tE17 => k_is)
      (case xE18 => k_is)
      (case eE18 => k_exc)
      (case kE18 => k_is)
      (case bE18 => k_is)
      (case tE18 => k_is)
      (case xE19 => k_is)
      (case eE19 => k_exc)
      (case kE19 => k_is)
      (case bE19 => k_is)
      (case tE19 => k_is)
      (case xE20 => k_is)
      (case eE20 => k_exc)
      (case kE20 => k_is)
      (case bE20 => k_is)
      (case tE20 => k_is)
      (case xE21 => k_is)
      (case eE21 => k_exc)
      (case kE21 => k_is)
      (case bE21 => k_is)
      (case tE21 => k_is)
      (case xE22 => k_is)
      (case eE22 => k_exc)
      (case kE22 => k_is)
      (case bE22 => k_is)
      (case tE22 => k_is)
      (case xE23 => k_is)
      (case eE23 => k_exc)
      (case kE23 => k_is)
      (case bE23 => k_is)
      (case tE23 => k_is)
      (case tcn => k_is)
      (case tct => k_is)
      (case eIs => first | kernel_rfl | decide +kernel)
      (case eKit => first | kernel_rfl | decide +kernel)
      (case aLB => k_is)
      (case lLB => k_is)
      (case cLB => k_is)
      (case kLB => k_is)
      (case aLT => k_is)
      (case lLT => k_is)
      (case cLT => k_is)
      (case kLT => k_is)
      (case aLP => k_is)
      (case lLP => k_is)
      (case cLP => k_is)
      (case kLP => k_is)
      (case aLW => k_is)
      (case lLW => k_is)
      (case cLW => k_is)
      (case kLW => k_is)
      (case aLF => k_is)
      (case lLF => k_is)
      (case cLF => k_is)
      (case kLF => k_is)
      (case aLO => k_is)
      (case lLO => k_is)
      (case cLO => k_is)
      (case kLO => k_is)
      (case aLC => k_is)
      (case lLC => k_is)
      (case cLC => k_is)
      (case kLC => k_is)
      (case aLL => k_is)
      (case lLL => k_is)
      (case cLL => k_is)
      (case kLL => k_is)
  
