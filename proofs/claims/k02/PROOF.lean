import PyProof.Rows.All
import Wide.All
import OpenK.AllK
import Wide.FinOn
import HandS.ForMost
import HandS.Property
import HandS.FStr
import PyProof.ReprReads
import PyProof.InstNe
import PyProof.ReprRoads
import KE.KFmtOwn
import HandS.IsInst
import HandS.Small
import PyProof.FactsAll.str_2
import PyProof.FactsAll.NoneType_1
import PyProof.FactsAll.tuple_2
import PyProof.FactsAll.int_3
import PyProof.FactsAll.bool_2
import PyProof.FactsAll.list_2
import PySem.Challenge.RW_overlapturns_k02_worlds_of_texts
import HandS.Codes
import HandS.Ends
set_option Elab.async false
set_option linter.all false
set_option maxRecDepth 100000
set_option maxHeartbeats 8000000
set_option Elab.async false
set_option linter.all false
namespace G
open PySem PySem.Spec PyProof.Rows L2

/-- a def's promise where no repr is under way -/
structure FG (P : Program) (w : World) (K : PySem.W.Frag) (mg : Str → Option Value) (base : Heap) (CX : CXT) (k : Nat) (f : Addr) (fd : FuncData) (ps : List Str) (sp : Sp) : Prop where
  ln : ∀ vs H Q E, sp vs H Q E → vs.length = ps.length
  go : ∀ (A : Around), A.guards = some [] → ∀ (outer : List Env) (s : Shared) (H : Hp) (args : Args) (us : List Value) (vs : List V) (Q : VK) (E : XK),
    Room k A → Env0 P w K mg base A outer s H → BindsTo s fd args (ps.zip us) → Vals vs us → sp vs H Q E →
      codeAny (model P w) A (.call (.ref f) args) (CR CX outer P w H s Q E) s

section
variable {P : Program} {w : World} {K : PySem.W.Frag} {mg : Str → Option Value} {base : Heap} {CX : CXT} {j k : Nat} {f : Addr} {fd : FuncData} {ps : List Str} {sp sp' : Sp}
theorem FG.of (F : FnOk P w K mg base CX k f fd ps sp) : FG P w K mg base CX k f fd ps sp :=
  ⟨F.len, fun A _ outer s H args us vs Q E => F.run A outer s H args us vs Q E⟩
theorem FG.up (F : FG P w K mg base CX j f fd ps sp) (h : j ≤ k) : FG P w K mg base CX k f fd ps sp :=
  ⟨F.ln, fun A g outer s H args us vs Q E r => F.go A g outer s H args us vs Q E (r.mono h)⟩
theorem FG.weak (F : FG P w K mg base CX k f fd ps sp) (h : ∀ vs H Q E, sp' vs H Q E → sp vs H Q E) : FG P w K mg base CX k f fd ps sp' :=
  ⟨fun vs H Q E q => F.ln vs H Q E (h _ _ _ _ q), fun A g outer s H args us vs Q E r e b v q => F.go A g outer s H args us vs Q E r e b v (h _ _ _ _ q)⟩

/-- FnOk at one surrounding: all that a call asks, with A fixed ahead -/
theorem fg_of {name qual : Str} {params : Arguments} {body : List Stmt} {scope : Scope} {dV kV doc pm cdv ct oc : Value} {an od : Option Addr} {osl : Array (Option Value)} {N : List Str}
    (lk : K.lookup f = some ⟨oc, od, .func (PySem.W.fnOf name qual params body scope dV kV doc pm an cdv ct), osl⟩) (hcd : PySem.W.codeIn K cdv qual = true) (S : FnScope N ps scope)
    (len : ∀ vs H Q E, sp vs H Q E → vs.length = ps.length)
    (hbody : ∀ (A : Around) (outer : List Env) (s : Shared) (H : Hp) (vs : List V) (Q : VK) (E : XK),
      (A.deeper (envOfC qual scope s.heap.objs.size f cdv)).guards = some [] → Room k (A.deeper (envOfC qual scope s.heap.objs.size f cdv)) → sp vs H Q E →
      ∃ t, PSs (cxOf CX P w K mg base N qual scope f cdv A outer s H E) body t ∧ t { nx := fun _ H' => Q .non H', rt := Q } (start N vs) H) :
    FG P w K mg base CX (k + 1) f (PySem.W.fnOf name qual params body scope dV kV doc pm an cdv ct) ps sp := by
  refine ⟨len, fun A g outer s H args us vs Q E hr e0 hb r hsp => ?_⟩
  have gd : (A.deeper (envOfC qual scope s.heap.objs.size f cdv)).guards = some [] := g
  obtain ⟨t, ht, hq⟩ := hbody A outer s H vs Q E gd (hr.deeper _) hsp
  have hl := len _ _ _ _ hsp
  have keep : K.In s.heap := e0.mod.kin.keeps fun b o e => (e0.bs b o e).1
  have kd : ∀ y ∈ ps.zip us, scope.names.lookup y.1 = some .local ∨
      (scope.names.lookup y.1 = some .cell ∧ ((cellsFrom (s.heap.objs.size + 1) scope.names []).lookup y.1).isSome = true) := by
    rintro ⟨n, v⟩ hy
    exact (S.par n (List.of_mem_zip hy).1).imp (fun q => q) fun q => ⟨q, PySem.W.cellsFrom_some _ _ _ (.inl q)⟩
  refine codeAny_call_function hr.depth (keep _ _ lk) rfl S.co S.gen rfl (PySem.W.codeRec_of keep hcd)
    (hb _ _ _ _ (wpAny_newFunctionEnv_cells S.kind kd fun env he s1 x => ?_))
  cases he
  refine ⟨(e0.mod.nolimit.keeps fun b o e => (e0.bs b o e).1).keeps x.toInCall.keep, codeAny_func ?_⟩
  have I := inv_start (CX := CX) (E := E) S hr.hd e0 hl r x
  refine wpAny_mono (ht.run [] s1 (start N vs) H _ I hq) (fun fl s' hs => ?_) fun _ _ z => z
  cases fl with
  | ret u =>
    obtain ⟨v, _, H', J, rv, q⟩ := hs
    exact ⟨v, H', J.os, J.bare, J.base, J.hok, rv, q⟩
  | next =>
    obtain ⟨_, H', J, q⟩ := hs
    exact ⟨V.non, H', J.os, J.bare, J.base, J.hok, rfl, q⟩
  | brk =>
    obtain ⟨_, _, _, z⟩ := hs
    exact z.elim
  | cont =>
    obtain ⟨_, _, _, z⟩ := hs
    exact z.elim

/-- a def of the text that nothing raised leaves -/
theorem fun_okG {x qual : Str} {st : Stmt} {N : List Str} (F : Fun K x qual st f fd) (S : FnScope N ps (defScope st)) (len : ∀ vs H Q E, sp vs H Q E → vs.length = ps.length)
    (hbody : ∀ (cdv : Value) (A : Around) (outer : List Env) (s : Shared) (H : Hp) (vs : List V) (Q : VK) (E : XK),
      (A.deeper (envOfC qual (defScope st) s.heap.objs.size f cdv)).guards = some [] → Room k (A.deeper (envOfC qual (defScope st) s.heap.objs.size f cdv)) → sp vs H Q E →
      ∃ t, PSs (cxOf CX0 P w K mg base N qual (defScope st) f cdv A outer s H E).nox (defBody st) t ∧ t { nx := fun _ H' => Q .non H', rt := Q } (start N vs) H) :
    FG P w K mg base CX0 (k + 1) f fd ps sp := by
  obtain ⟨_, _, _, _, _, _, cdv, _, _, rfl, lk, hcd⟩ := F.ex
  refine fg_of lk hcd S len fun A outer s H vs Q E g hr h => ?_
  obtain ⟨t, d, q⟩ := hbody cdv A outer s H vs Q E g hr h
  exact ⟨t, d.nox, q⟩
end

/-- how a call's values come to the parameters: positional us, then the names ks with ws; g is their order -/
structure KB (K : PySem.W.Frag) (fd : FuncData) (ps : List Str) (n : Nat) (ks : List Str) (g : {α : Type} → List α → List α → List α) : Prop where
  ar : ∀ (s : Shared) (us ws : List Value), us.length = n → ws.length = ks.length → BindsTo s fd ⟨us, ks.zip ws⟩ (ps.zip (g us ws))
  re : ∀ {vs zs : List V} {us ws : List Value}, Vals vs us → Vals zs ws → Vals (g vs zs) (g us ws)

/-- a def of the module under its name -/
structure Cal (P : Program) (w : World) (K : PySem.W.Frag) (mg : Str → Option Value) (base : Heap) (x : Str) (k : Nat) (ps : List Str) (sp : Sp) : Prop where
  ex : ∃ f fd, FG P w K mg base CX0 k f fd ps sp ∧ mg x = some (.ref f) ∧ PySem.W.keepIn K (.ref f) = true ∧ Binds K fd ps []
section
variable {X : Cx} {pins : List (Addr × Obj)} {σ : L2.St} {H : Hp} {s : Shared} {Q : VK} {CX : CXT} {k : Nat} {f C : Addr} {fd : FuncData} {ps : List Str} {sp : Sp} {E : XK}
/-- what a callee's end is for the caller -/
theorem back_of (hx : Passes CX X E) (I : Inv X pins σ H s) {r : Result} {s' : Shared} (hq : CR CX X.stack X.prog X.w H s Q E r s') : wants (EP X pins σ Q) X.xe r s' := by
  cases r with
  | error e => exact hx pins σ H s e s' I hq
  | ok fl =>
    cases fl <;> first | exact I.after hq | exact False.elim hq
theorem run_g (F : FG X.prog X.w X.K X.mg X.base CX k f fd ps sp) (gd : X.A.guards = some []) (hr : Room k X.A) (hx : Passes CX X E) (I : Inv X pins σ H s) {args : Args} {us : List Value} {vs : List V}
    (hb : BindsTo s fd args (ps.zip us)) (r : Vals vs us) (h : sp vs H Q E) : codeAny (model X.prog X.w) X.A (.call (.ref f) args) (wants (EP X pins σ Q) X.xe) s :=
  codeAny_mono (F.go X.A gd X.stack s H args us vs Q E hr I.env0 hb r h) fun _ _ hq => back_of hx I hq
end

section
variable {X : Cx} {CX : CXT} {k : Nat} {f C : Addr} {fd : FuncData} {ps ks : List Str} {sp : Sp} {E : XK} {x m : Str} {p pos apos : Pos} {e o : Expr} {es : List Expr} {kws : List Keyword} {ta : TE} {t tk : TA} {n : Nat} {g : {α : Type} → List α → List α → List α}

theorem binds_to {K : PySem.W.Frag} {s : Shared} {us : List Value} (hb : Binds K fd ps []) (kx : K.In s.heap) (hl : us.length = ps.length) : BindsTo s fd ⟨us, []⟩ (ps.zip us) := by
  have q := hb s us kx (by rw [List.append_nil]; exact hl)
  rwa [List.append_nil] at q

/-- f(e, ..) -/
theorem pe_cg (c : Cal X.prog X.w X.K X.mg X.base x k ps sp) (gd : X.A.guards = some []) (hr : Room k X.A) (hg : Gl X x) (ha : PA X (e :: es) t) (hdb : (x == ("__debug__" : Str)) = false := by decide)
    (he : starEach (e :: es) X.env = (false, eval e X.env) :: starEach es X.env := by rfl) (hpl : (backTo pos (starEach es X.env)).any (·.1) = false := by rfl) : PE X (.Call (.Name x p) (e :: es) [] pos) (tCall sp [] E0 t) := by
  obtain ⟨f, fd, F, hm, hk, hb⟩ := c.ex
  refine ⟨fun pins s σ H Q I h => wpAny_Call_Name_kw (ld_glob I hg hm ?_ hdb)⟩
  refine PySem.W.callWith_K (h₀ := X.base) I.mod.kin hk (thn (ha.run pos pins s σ H _ I h) ?_) he hpl
  rintro us s1 ⟨vs, H1, I1, r, q⟩
  have q' : sp vs H1 Q E0 := by
    have q0 := q
    rwa [List.append_nil] at q0
  have ln : us.length = ps.length := r.length.symm.trans (F.ln _ _ _ _ q')
  exact ⟨I1.kIn, PySem.wpAny_call (run_g F gd hr pass0 I1 (us := us) (binds_to hb I1.kIn ln) r q')⟩

/-- the method of that name stands at f -/
structure MethG (P : Program) (w : World) (K : PySem.W.Frag) (mg : Str → Option Value) (base : Heap) (C : Addr) (m : Str) (k : Nat) (ps : List Str) (sp : Sp) : Prop where
  ex : ∃ f fd, FG P w K mg base CX0 k f fd ps sp ∧ Meth K C m f ∧ Binds K fd ps []
/-- .. with keywords -/
structure MethK (P : Program) (w : World) (K : PySem.W.Frag) (mg : Str → Option Value) (base : Heap) (C : Addr) (m : Str) (k : Nat) (ps : List Str) (n : Nat) (ks : List Str) (g : {α : Type} → List α → List α → List α) (sp : Sp) : Prop where
  ex : ∃ f fd, FG P w K mg base CX0 k f fd ps sp ∧ Meth K C m f ∧ KB K fd ps n ks g

/-- o.m(e, ..), o an instance of the class at C -/
theorem pe_mg {pl : Sem Bool} (c : Cls X.K C) (M : MethG X.prog X.w X.K X.mg X.base C m k ps sp) (gd : X.A.guards = some []) (hr : Room k X.A) (he : PE X o ta) (ha : PA X (e :: es) t)
    (hst : starEach (e :: es) X.env = (false, eval e X.env) :: starEach es X.env := by rfl) (hpl : (backTo pos (starEach es X.env)).any (·.1) = false := by rfl)
    (ht : eval (.Call (.Attribute o m apos) (e :: es) [] pos) X.env = (eval o X.env >>= fun ov => standAt apos.atName >>= fun _ =>
      holding [ov] (getMethod ov m pl) >>= fun z => callWith pos z.1 z.2 (backTo pos (starEach (e :: es) X.env)) (backToKw pos (keywordEach [] X.env))) := by rfl) :
    PE X (.Call (.Attribute o m apos) (e :: es) [] pos) (tMeth C m sp [] E0 ta t) := by
  obtain ⟨f, fd, F, hm, hb⟩ := M.ex
  refine ⟨fun pins s σ H Q I h => PySem.W.methodCall_KW (pl := pl) (thn (he.run pins s σ H _ I h) ?_) ht⟩
  rintro u s1 ⟨y, H1, I1, rx, a, dx, fs, rfl, ea, l, q⟩
  cases rx
  refine getmeth_ok I1 ea c hm l (PySem.W.callWith_K (first := [.ref a]) (h₀ := X.base) I1.mod.kin hm.kp (thn (ha.run pos pins s1 σ H1 _ I1 q) ?_) hst hpl)
  rintro us s2 ⟨vs, H2, I2, r, q2⟩
  have q' : sp (.ref a :: vs) H2 Q E0 := by
    have q0 := q2
    rwa [List.append_nil] at q0
  have r' : Vals (V.ref a :: vs) (Value.ref a :: us) := .cons rfl r
  have ln : (Value.ref a :: us).length = ps.length := r'.length.symm.trans (F.ln _ _ _ _ q')
  exact ⟨I2.kIn, PySem.wpAny_call (run_g F gd hr pass0 I2 (us := .ref a :: us) (binds_to hb I2.kIn ln) r' q')⟩

/-- o.m(k = v, ..): the object, then the keywords' values; g puts them in the parameters' order -/
def tMethK (C : Addr) (m : Str) (nk : Nat) (g : List V → List V → List V) (sp : Sp) (ta : TE) (tk : TA) : TE := fun σ H Q => ta σ H fun x H1 => ∃ a dx fs, x = .ref a ∧ H1 a = some (.ins C dx fs) ∧ fs.lookup m = none ∧
  tk σ H1 fun zs H2 => zs.length = nk ∧ sp (g [x] zs) H2 Q E0
theorem pe_mgK {pl : Sem Bool} (c : Cls X.K C) (M : MethK X.prog X.w X.K X.mg X.base C m k ps 1 ks g sp) (gd : X.A.guards = some []) (hr : Room k X.A) (he : PE X o ta) (hkw : PK X kws tk)
    (hall : (backToKw pos (keywordEach kws X.env)).all (·.1.isSome) = true := by rfl) (hks : (backToKw pos (keywordEach kws X.env)).filterMap (·.1) = ks := by rfl)
    (hpl : ((backTo pos (starEach [] X.env)).any (·.1) || (backToKw pos (keywordEach kws X.env)).any (·.1.isNone)) = false := by rfl)
    (ht : eval (.Call (.Attribute o m apos) [] kws pos) X.env = (eval o X.env >>= fun ov => standAt apos.atName >>= fun _ =>
      holding [ov] (getMethod ov m pl) >>= fun z => callWith pos z.1 z.2 (backTo pos (starEach [] X.env)) (backToKw pos (keywordEach kws X.env))) := by rfl) :
    PE X (.Call (.Attribute o m apos) [] kws pos) (tMethK C m ks.length g sp ta tk) := by
  obtain ⟨f, fd, F, hm, hb⟩ := M.ex
  refine ⟨fun pins s σ H Q I h => PySem.W.methodCall_KW (pl := pl) (thn (he.run pins s σ H _ I h) ?_) ht⟩
  rintro u s1 ⟨y, H1, I1, rx, a, dx, fs, rfl, ea, l, q⟩
  cases rx
  refine getmeth_ok I1 ea c hm l (PySem.W.callWith_KW0 (first := [.ref a]) I1.mod.kin hm.kp hall (thn (hkw.run pos pins s1 σ H1 _ I1 q) ?_) hpl)
  rintro ws s2 ⟨zs, H2, I2, rz, lz, q2⟩
  rw [hks]
  have r0 : Vals [V.ref a] [Value.ref a] := .cons rfl .nil
  exact ⟨I2.kIn, PySem.wpAny_call (run_g F gd hr pass0 I2 (hb.ar s2 [.ref a] ws rfl (by rw [← rz.length, lz])) (hb.re r0 rz) q2)⟩

/-- what makes an instance: C's __init__ stands at f -/
structure MkG (P : Program) (w : World) (K : PySem.W.Frag) (mg : Str → Option Value) (base : Heap) (CX : CXT) (x : Str) (C : Addr) (k : Nat) (ps : List Str) (sp : Sp) : Prop where
  ex : ∃ f fd, FG P w K mg base CX k f fd ps sp ∧ Mk K C f ∧ mg x = some (.ref C) ∧ Binds K fd ps []
structure MkK (P : Program) (w : World) (K : PySem.W.Frag) (mg : Str → Option Value) (base : Heap) (CX : CXT) (x : Str) (C : Addr) (k : Nat) (ps : List Str) (ks : List Str) (g : {α : Type} → List α → List α → List α) (sp : Sp) : Prop where
  ex : ∃ f fd, FG P w K mg base CX k f fd ps sp ∧ Mk K C f ∧ mg x = some (.ref C) ∧ KB K fd ps 1 ks g
theorem guards_make {A : Around} {C : Addr} {us : List Value} {kw : List (Str × Value)} (h : A.guards = some []) : (A.under (.builtin "type.__call__" ⟨.ref C :: us, kw⟩)).guards = some [] := by
  have e0 : guardIds.contains "type.__call__" = false := by decide +kernel
  have e : (Code.builtin "type.__call__" ⟨.ref C :: us, kw⟩).guards = [] := by
    unfold Code.guards
    rw [show (Code.builtin "type.__call__" ⟨.ref C :: us, kw⟩).isGuard = false from e0]
    rfl
  have z : (A.under (.builtin "type.__call__" ⟨.ref C :: us, kw⟩)).guards = pushGuards (Code.builtin "type.__call__" ⟨.ref C :: us, kw⟩).guards A.guards := by
    first | rfl | simp [Around.under]
  rw [z, e]
  exact h
/-- the instance made, its __init__ run -/
theorem run_mk {pins : List (Addr × Obj)} {σ : L2.St} {H : Hp} {s : Shared} {Q : VK} (M : Mk X.K C f) (F : FG X.prog X.w X.K X.mg X.base CX k f fd ps sp) (gd : X.A.guards = some []) (hr : Room (k + 1) X.A) (hx : Passes CX X E) (I : Inv X pins σ H s)
    {us : List Value} {kw : List (Str × Value)} {all : Value → List Value} {vs : V → List V}
    (hb : ∀ (s' : Shared) (x : Addr), X.K.In s'.heap → (all (.ref x)).length = ps.length → BindsTo s' fd ⟨.ref x :: us, kw⟩ (ps.zip (all (.ref x)))) (r : ∀ x : Addr, Vals (vs (.ref x)) (all (.ref x)))
    (h : ∀ x dx, H x = none → H dx = none → dx ≠ x → sp (vs (.ref x)) (upd (upd H dx (.own x)) x (.ins C dx [])) (fun v H2 => v = .non ∧ Q (.ref x) H2) E) :
    wpAny (model X.prog X.w) X.A (call (.ref C) us kw) (EP X pins σ Q) X.xe s := by
  have fr : ∀ a, s.heap.objs.size ≤ a → H a = none := fun a ha => I.hok.fresh ha
  have q := h (s.heap.objs.size + 1) s.heap.objs.size (fr _ (Nat.le_succ _)) (fr _ (Nat.le_refl _)) (Nat.ne_of_lt (Nat.lt_succ_self _))
  have J := Inv.made (C := C) I
  have ln : (all (.ref (s.heap.objs.size + 1))).length = ps.length := by
    rw [← (r _).length]
    exact F.ln _ _ _ _ q
  have run := F.go _ (guards_make (C := C) (us := us) (kw := kw) gd) X.stack _ _ _ _ _ _ E (hr.make C us kw) (J.env0.make C us kw) (hb _ _ J.kIn ln) (r _) q
  refine PySem.wpAny_call (make_map (f := f) I.kIn M.makes M.init (beq_iff_eq.mp M.fn) (codeAny_mono run fun z s' hz => ?_))
  cases z with
  | error e => exact hx pins σ _ _ e s' J hz
  | ok fl =>
    cases fl with
    | ret u =>
      obtain ⟨v, H', J', rv, rfl, qv⟩ := J.after hz
      exact ⟨rv, .ref (s.heap.objs.size + 1), H', J', rfl, qv⟩
    | next => exact hz.elim
    | brk => exact hz.elim
    | cont => exact hz.elim
/-- C(e, ..) -/
theorem pe_kg (M : MkG X.prog X.w X.K X.mg X.base CX x C k ps sp) (gd : X.A.guards = some []) (hr : Room (k + 1) X.A) (hx : Passes CX X E) (hg : Gl X x) (ha : PA X (e :: es) t) (hdb : (x == ("__debug__" : Str)) = false := by decide)
    (he : starEach (e :: es) X.env = (false, eval e X.env) :: starEach es X.env := by rfl) (hpl : (backTo pos (starEach es X.env)).any (·.1) = false := by rfl) : PE X (.Call (.Name x p) (e :: es) [] pos) (tMake C sp [] E t) := by
  obtain ⟨f, fd, F, mk, hm, hb⟩ := M.ex
  refine ⟨fun pins s σ H Q I h => wpAny_Call_Name_kw (ld_glob I hg hm ?_ hdb)⟩
  refine PySem.W.callWith_K (h₀ := X.base) I.mod.kin mk.kp (thn (ha.run pos pins s σ H _ I h) ?_) he hpl
  rintro us s1 ⟨vs, H1, I1, r, q⟩
  refine ⟨I1.kIn, run_mk mk F gd hr hx I1 (all := fun y => y :: us) (vs := fun y => y :: vs) (fun s' y kx ln => binds_to hb kx ln) (fun y => .cons rfl r) fun y dy h1 h2 h3 => ?_⟩
  have q0 := q y dy h1 h2 h3
  rwa [List.append_nil] at q0
/-- C(k = v, ..) -/
def tMakeKw (C : Addr) (nk : Nat) (g : List V → List V → List V) (sp : Sp) (E : XK) (tk : TA) : TE := fun σ H Q => tk σ H fun zs H1 => zs.length = nk ∧ ∀ x dx, H1 x = none → H1 dx = none → dx ≠ x →
  sp (g [.ref x] zs) (upd (upd H1 dx (.own x)) x (.ins C dx [])) (fun v H2 => v = .non ∧ Q (.ref x) H2) E
theorem pe_kgK (M : MkK X.prog X.w X.K X.mg X.base CX x C k ps ks g sp) (gd : X.A.guards = some []) (hr : Room (k + 1) X.A) (hx : Passes CX X E) (hg : Gl X x) (hkw : PK X kws tk)
    (hdb : (x == ("__debug__" : Str)) = false := by decide)
    (hall : (backToKw pos (keywordEach kws X.env)).all (·.1.isSome) = true := by rfl) (hks : (backToKw pos (keywordEach kws X.env)).filterMap (·.1) = ks := by rfl)
    (hpl : ((backTo pos (starEach [] X.env)).any (·.1) || (backToKw pos (keywordEach kws X.env)).any (·.1.isNone)) = false := by rfl) :
    PE X (.Call (.Name x p) [] kws pos) (tMakeKw C ks.length g sp E tk) := by
  obtain ⟨f, fd, F, mk, hm, hb⟩ := M.ex
  refine ⟨fun pins s σ H Q I h => wpAny_Call_Name_kw (ld_glob I hg hm ?_ hdb)⟩
  refine PySem.W.callWith_KW0 (h₀ := X.base) I.mod.kin mk.kp hall (thn (hkw.run pos pins s σ H _ I h) ?_) hpl
  rintro ws s1 ⟨zs, H1, I1, rz, lz, q⟩
  rw [hks]
  refine ⟨I1.kIn, run_mk mk F gd hr hx I1 (us := []) (all := fun y => g [y] ws) (vs := fun y => g [y] zs) (fun s' y kx ln => hb.ar s' [.ref y] ws rfl (by rw [← rz.length, lz])) (fun y => ?_) q⟩
  have r0 : Vals [V.ref y] [Value.ref y] := .cons rfl .nil
  exact hb.re r0 rz

/-- a property of the class at C whose getter is a def of the text -/
structure PropG (P : Program) (w : World) (K : PySem.W.Frag) (mg : Str → Option Value) (base : Heap) (C : Addr) (m : Str) (k : Nat) (sp : Sp) : Prop where
  ex : ∃ p f fd, FnOk P w K mg base CX0 k f fd ["self"] sp ∧ PropOf K C m p f ∧ Binds K fd ["self"] []
theorem pe_pg (c : Cls X.K C) (M : PropG X.prog X.w X.K X.mg X.base C m k sp) (hr : Room (k + 1) X.A) (he : PE X e ta) (hab : attributeBase e m X.env (eval e X.env) = eval e X.env := by rfl) : PE X (.Attribute e m pos) (tProp C sp [] E0 ta) := by
  obtain ⟨p, f, fd, F, hp, hb⟩ := M.ex
  exact pe_prop he c hp F hr hb .nil pass0 hab
end

/-! ### repr of data -/
section
variable {X : Cx}
/-- repr(x), x of None, bools, ints, texts, lists, tuples -/
def rReprD (K : PySem.W.Frag) : List V → Hp → VK → Prop := fun xs H Q => ∃ x d, xs = [x] ∧ Dp K H x d ∧ d.showable = true ∧ d.hasDict = false ∧ d.depth ≤ 40 ∧ d.shown.length ≤ sizeLine ∧ Q (.str d.shown) H
theorem call_reprD {k : Nat} (gd : X.A.guards = some []) (hr : Room k X.A) : CallR X (.builtin "repr") (rReprD X.K) := by
  intro pins s σ H xs us Q I r h
  obtain ⟨x, d, rfl, hd, sh, nd, dp, sz, q⟩ := h
  obtain ⟨u, rfl, ru⟩ := vals1 r
  obtain ⟨as, rd⟩ := Dp.reads I d x u hd ru
  have un := hr.units
  have fin : ∀ h' tk t, (∀ b o, s.heap.get? b = some o → h'.get? b = some o) → EP X pins σ Q (.str d.shown t) { s with heap := h', toks := tk } :=
    fun h' tk t kp => ⟨.str d.shown, H, I.kept kp, ⟨t, rfl⟩, q⟩
  cases hd with
  | non =>
    cases ru
    exact PySem.P.repr_of_none (fin s.heap _ _ fun _ _ e => e)
  | bl b =>
    cases ru
    exact PySem.P.repr_of_bool (fin s.heap _ _ fun _ _ e => e)
  | int i =>
    obtain ⟨t, rfl⟩ := ru
    exact PySem.P.repr_of_int (by simpa [PyData.showable] using sh) (fin s.heap _ _ fun _ _ e => e)
  | str z =>
    obtain ⟨t, rfl⟩ := ru
    exact PySem.P.repr_of_str (fin s.heap _ _ fun _ _ e => e) (by simpa only [PyData.shown] using sz)
  | lst h1 h2 =>
    cases ru
    exact repr_of_reads' rd sh (fun z => by rw [nd] at z; cases z) gd (by omega) (fun _ _ e => e) (fun h' u tk kp => fin h' tk u kp) sz
  | tup h1 h2 =>
    cases ru
    exact repr_of_reads' rd sh (fun z => by rw [nd] at z; cases z) gd (by omega) (fun _ _ e => e) (fun h' u tk kp => fin h' tk u kp) sz
end
end G
set_option Elab.async false
set_option linter.all false
namespace G
open PySem PySem.Spec PyProof.Rows L2
section
variable {prog : Program} {w : World} {A : Around} {E : Value → Shared → Prop} {s : Shared} {K : PySem.W.Frag} {x C : Addr} {ox : Obj} {od : Option Obj}
/-- a built-in special method, found on the instance's class -/
theorem bound_slot {M : Model} {name : Str} {id : String} {args : List Value} {Q : Option Value → Shared → Prop} (X : K.In s.heap) (I : PySem.W.InstAt s.heap x ox C od) (hs : PySem.W.findIn K (.ref C) name = some (some (.builtin id)))
    (hb : ∀ self, bindSpecial (.builtin id) self = pure (.builtin id, [self])) (h : wpAny M A (call (.builtin id) (.ref x :: args)) (fun v => Q (some v)) E s) : wpAny M A (callSpecialIfBound? (.ref x) name args) Q E s := by
  have fin : wpAny M A (call (.builtin id) ([.ref x] ++ args) >>= fun v => pure (some v)) Q E s := wpAny_bind (wpAny_mono h (fun v s' z => wpAny_pure z) fun _ _ z => z)
  have lk : PySem.W.Looks M s.heap (bindSpecial (.builtin id) (.ref x)) (.builtin id, [.ref x]) := PySem.W.Looks.of_pure (hb _)
  simp only [callSpecialIfBound?, bindSpecialIfBound?]
  refine wpAny_holding (wpAny_bind (wpAny_bind (wpAny_bind (I.type.here ((PySem.W.looks_findIn X hs).here (wpAny_bind (wpAny_askSetting (wpAny_ite ?_))))))))
  split
  · exact wpAny_bind (lk.here (wpAny_pure (by exact fin)))
  · exact wpAny_tryCatch (wpAny_bind (lk.here (wpAny_pure (by exact fin))))
/-- object.__ne__ where the class has an own __eq__ -/
theorem obj_ne {f : Addr} {b : Value} {Q : Value → Shared → Prop} (hu : A.in1.units < cLine) (X : K.In s.heap) (I : PySem.W.InstAt s.heap x ox C od) (hm : PySem.W.mroIn K C (.type "object") = some true)
    (he : PySem.W.findIn K (.ref C) "__eq__" = some (some (.ref f))) (hf : PySem.W.isFn K (.ref f) = true)
    (h : wpAny (model prog w) A.in1 (call (.ref f) [.ref x, b]) (fun v s' => ∃ k, v = .bool k ∧ Q (.bool (!k)) s') E s) : wpAny (model prog w) A (call (.builtin "object.__ne__") [.ref x, b]) Q E s := by
  refine PySem.wpAny_call (codeAny_call_builtin (by decide +kernel) PySem.F.cmpEntry_ne (PySem.W.check_slot (i := "object.__ne__") (owner := "object") (n := "__ne__") (by decide +kernel) (by decide +kernel) (I.type.andThen (PySem.W.looks_mroIn X hm)) (PySem.F.cmpArgs_ne _ _) ?_))
  unfold Builtin.«object.__ne__»
  refine wpAny_bind (m := slotArgs "__ne__" 1 _) (wpAny_pure ?_)
  refine wpAny_bind (m := cRoomFor _ _) (wpAny_cRoomFor hu ?_)
  refine wpAny_bind (m := callSpecialIfBound? (.ref x) (Str.ofString "__eq__") [b]) (PySem.W.ifBound_K X I he hf (wpAny_mono h (fun v s' hv => ?_) fun _ _ z => z))
  obtain ⟨k, rfl, hq⟩ := hv
  refine wpAny_bind (m := truthy (.bool k)) (wpAny_truthy_bool ?_)
  exact wpAny_pure hq
/-- x != b, tried on an instance with an own __eq__ -/
theorem try_ne {f : Addr} {b : Value} {Q : Option Value → Shared → Prop} (hu : A.in1.units < cLine) (X : K.In s.heap) (I : PySem.W.InstAt s.heap x ox C od) (hm : PySem.W.mroIn K C (.type "object") = some true)
    (hn : PySem.W.findIn K (.ref C) "__ne__" = some (some (.builtin "object.__ne__"))) (he : PySem.W.findIn K (.ref C) "__eq__" = some (some (.ref f))) (hf : PySem.W.isFn K (.ref f) = true)
    (h : wpAny (model prog w) A.in1 (call (.ref f) [.ref x, b]) (fun v s' => ∃ k, v = .bool k ∧ Q (some (.bool (!k))) s') E s) : wpAny (model prog w) A (tryCompare (.ref x) "__ne__" b) Q E s := by
  unfold tryCompare
  refine wpAny_bind (bound_slot X I hn (fun self => rfl) (obj_ne hu X I hm he hf (wpAny_mono h (fun v s' hv => ?_) fun _ _ z => z)))
  obtain ⟨k, rfl, hq⟩ := hv
  exact ⟨k, rfl, wpAny_pure hq⟩
/-- x != b, x such an instance, b of another type that does not come first -/
theorem rc_ne_left {f : Addr} {b tb : Value} {Q : Value → Shared → Prop} (hu : A.in1.units < cLine) (X : K.In s.heap) (I : PySem.W.InstAt s.heap x ox C od) (hb : PySem.W.Looks (model prog w) s.heap (typeOf b) tb) (ht : PySem.W.notFirst K C tb = true)
    (hm : PySem.W.mroIn K C (.type "object") = some true) (hn : PySem.W.findIn K (.ref C) "__ne__" = some (some (.builtin "object.__ne__"))) (he : PySem.W.findIn K (.ref C) "__eq__" = some (some (.ref f))) (hf : PySem.W.isFn K (.ref f) = true)
    (h : wpAny (model prog w) A.in1 (call (.ref f) [.ref x, b]) (fun v s' => ∃ k, v = .bool k ∧ Q (.bool (!k)) s') E s) : wpAny (model prog w) A (richCompare .NotEq (.ref x) b) Q E s := by
  have u0 : A.units < cLine := Nat.lt_of_succ_lt (show A.units + 1 < cLine from hu)
  have one : wpAny (model prog w) A (tryCompare (.ref x) "__ne__" b) (fun r s' => ∃ v, r = some v ∧ Q v s') E s := try_ne hu X I hm hn he hf (wpAny_mono h (fun v s' hv => by
    obtain ⟨k, rfl, hq⟩ := hv
    exact ⟨k, rfl, _, rfl, hq⟩) fun _ _ z => z)
  unfold richCompare
  simp only [oneThing_ref]
  refine wpAny_holding (wpAny_bind (wpAny_cRoomFor u0 (wpAny_bind (I.type.here (wpAny_bind (hb.here ?_))))))
  split
  · rename_i q
    have e : PySem.W.subIn K tb (.ref C) = some false := (Bool.or_eq_true_iff.mp ht).elim (fun e => absurd q (by rw [beq_iff_eq.mp e]; simp)) fun e => beq_iff_eq.mp e
    refine wpAny_bind ((PySem.W.looks_subIn X e).here ?_)
    simp only [Bool.false_eq_true, if_false]
    refine wpAny_bind (wpAny_mono one (fun r s' z => ?_) fun _ _ z => z)
    obtain ⟨v, rfl, hq⟩ := z
    exact wpAny_pure hq
  · refine wpAny_bind (wpAny_pure ?_)
    simp only [Bool.false_eq_true, if_false]
    refine wpAny_bind (wpAny_mono one (fun r s' z => ?_) fun _ _ z => z)
    obtain ⟨v, rfl, hq⟩ := z
    exact wpAny_pure hq
end

section
variable {X : Cx} {k : Nat} {C : Addr} {ps : List Str} {sp : Sp}
/-- what an own == at the class C wants to be asked -/
structure EqG (P : Program) (w : World) (K : PySem.W.Frag) (mg : Str → Option Value) (base : Heap) (C : Addr) (k : Nat) (sp : Sp) : Prop where
  ex : ∃ f fd, FG P w K mg base CX0 k f fd ["self", "other"] sp ∧ PySem.W.findIn K (.ref C) "__eq__" = some (some (.ref f)) ∧ PySem.W.isFn K (.ref f) = true ∧ Binds K fd ["self", "other"] []
/-- .. and what stands for != -/
structure NeC (K : PySem.W.Frag) (C : Addr) : Prop where
  ne : PySem.W.findIn K (.ref C) "__ne__" = some (some (.builtin "object.__ne__"))
  mro : PySem.W.mroIn K C (.type "object") = some true
def rEqOwn (K : PySem.W.Frag) (C : Addr) (sp : Sp) : R2 := fun x y H Q => ∃ a dx fs tb, x = .ref a ∧ H a = some (.ins C dx fs) ∧ TyX K H y tb ∧ PySem.W.notFirst K C tb = true ∧ sp [x, y] H Q E0
def rNeOwn (K : PySem.W.Frag) (C : Addr) (sp : Sp) : R2 := fun x y H Q => ∃ a dx fs tb, x = .ref a ∧ H a = some (.ins C dx fs) ∧ TyX K H y tb ∧ PySem.W.notFirst K C tb = true ∧ sp [x, y] H (fun v H' => ∃ k, v = .bl k ∧ Q (.bl (!k)) H') E0
theorem noNI {v : V} {u : Value} (r : RelV v u) {Q : Value → Shared → Prop} {s : Shared} (q : Q u s) : PySem.W.CmpBack Q u s := by
  cases v with
  | non => cases r; exact q
  | bl b => cases r; exact q
  | int i => obtain ⟨t, rfl⟩ := r; exact q
  | str i => obtain ⟨t, rfl⟩ := r; exact q
  | byt i => obtain ⟨t, rfl⟩ := r; exact q
  | flt i => obtain ⟨t, rfl⟩ := r; exact q
  | ref a => cases r; exact q
  | ty n => cases r; exact q
theorem op_eqOwn (M : EqG X.prog X.w X.K X.mg X.base C k sp) (gd : X.A.guards = some []) (hr : Room k X.A) : OpR X (compareOp .Eq) (rEqOwn X.K C sp) := by
  intro pins s σ H x y v u Q I rx ry h
  obtain ⟨f, fd, F, he, hf, hb⟩ := M.ex
  obtain ⟨a, dx, fs, tb, rfl, ha, ty, nf, q⟩ := h
  cases rx
  obtain ⟨mA, J, _⟩ := ins_get I.hok ha
  obtain ⟨od, J, _⟩ := J.look
  obtain ⟨P, kit, hP, _⟩ := kit_of I ry ty
  obtain ⟨m, fr⟩ := I.fr
  refine PySem.W.cmp_K (op := .Eq) hr.units0 fr I.mod.kin J (kit.ty _ _ I.kIn hP) nf he hf (PySem.wpAny_call (codeAny_mono (run_g F gd hr pass0 I (us := [.ref a, u]) (vs := [.ref a, y]) (binds_to hb I.kIn rfl) (.cons rfl (.cons ry .nil)) q) fun r s' hq => ?_))
  cases r with
  | error e => exact hq
  | ok fl =>
    cases fl with
    | ret z =>
      obtain ⟨v', H', I', rv, q'⟩ := hq
      exact noNI (Q := EP X pins σ Q) rv ⟨v', H', I', rv, q'⟩
    | next => exact hq
    | brk => exact hq
    | cont => exact hq
theorem in1_guards {A : Around} (h : A.guards = some []) : A.in1.guards = some [] := h
/-- a callee one step below -/
theorem run_in1 {pins : List (Addr × Obj)} {σ : L2.St} {H : Hp} {s : Shared} {Q : VK} {f : Addr} {fd : FuncData} (F : FG X.prog X.w X.K X.mg X.base CX0 k f fd ps sp) (gd : X.A.guards = some []) (hr : Room (k + 1) X.A) (I : Inv X pins σ H s) {args : Args} {us : List Value} {vs : List V}
    (hb : BindsTo s fd args (ps.zip us)) (r : Vals vs us) (h : sp vs H Q E0) : codeAny (model X.prog X.w) X.A.in1 (.call (.ref f) args) (wants (EP X pins σ Q) X.xe) s :=
  codeAny_mono (F.go X.A.in1 gd X.stack s H args us vs Q E0 hr.in1 I.env0.in1 hb r h) fun _ _ hq => back_of pass0 I hq
theorem op_neOwn (M : EqG X.prog X.w X.K X.mg X.base C k sp) (N : NeC X.K C) (gd : X.A.guards = some []) (hr : Room (k + 1) X.A) : OpR X (compareOp .NotEq) (rNeOwn X.K C sp) := by
  intro pins s σ H x y v u Q I rx ry h
  obtain ⟨f, fd, F, he, hf, hb⟩ := M.ex
  obtain ⟨a, dx, fs, tb, rfl, ha, ty, nf, q⟩ := h
  cases rx
  obtain ⟨mA, J, _⟩ := ins_get I.hok ha
  obtain ⟨od, J, _⟩ := J.look
  obtain ⟨P, kit, hP, _⟩ := kit_of I ry ty
  refine rc_ne_left (hr.in1.units0) I.kIn J (kit.ty _ _ I.kIn hP) nf N.mro N.ne he hf (PySem.wpAny_call (codeAny_mono (run_in1 F gd hr I (us := [.ref a, u]) (vs := [.ref a, y]) (binds_to hb I.kIn rfl) (.cons rfl (.cons ry .nil)) q) fun r s' hq => ?_))
  cases r with
  | error e => exact hq
  | ok fl =>
    cases fl with
    | ret z =>
      obtain ⟨v', H', I', rv, k, rfl, q'⟩ := hq
      cases rv
      exact ⟨k, rfl, .bl (!k), H', I', rfl, q'⟩
    | next => exact hq
    | brk => exact hq
    | cont => exact hq
/-- repr(o), o with an own __repr__ that hands back a text -/
structure ReG (P : Program) (w : World) (K : PySem.W.Frag) (mg : Str → Option Value) (base : Heap) (C : Addr) (k : Nat) (sp : Sp) : Prop where
  ex : ∃ f fd, FG P w K mg base CX0 k f fd ["self"] sp ∧ PySem.W.findIn K (.ref C) "__repr__" = some (some (.ref f)) ∧ PySem.W.isFn K (.ref f) = true ∧ Binds K fd ["self"] []
def rReprOwn (C : Addr) (sp : Sp) : List V → Hp → VK → Prop := fun xs H Q => ∃ a dx fs, xs = [.ref a] ∧ H a = some (.ins C dx fs) ∧ sp xs H (fun v H' => ∃ z, v = .str z ∧ Q v H') E0
theorem call_reprOwn (M : ReG X.prog X.w X.K X.mg X.base C k sp) (gd : X.A.guards = some []) (hr : Room (k + 1) X.A) : CallR X (.builtin "repr") (rReprOwn C sp) := by
  intro pins s σ H xs us Q I r h
  obtain ⟨f, fd, F, he, hf, hb⟩ := M.ex
  obtain ⟨a, dx, fs, rfl, ha, q⟩ := h
  obtain rfl := Vals.ref1 r
  obtain ⟨mA, J, _⟩ := ins_get I.hok ha
  obtain ⟨od, J, _⟩ := J.look
  obtain ⟨m, fr⟩ := I.fr
  refine PySem.W.repr_K (hr.in1.units0) fr I.mod.kin J he hf (PySem.wpAny_call (codeAny_mono (run_in1 F gd hr I (us := [.ref a]) (vs := [.ref a]) (binds_to hb I.kIn rfl) (.cons rfl .nil) q) fun r s' hq => ?_))
  cases r with
  | error e => exact hq
  | ok fl =>
    cases fl with
    | ret z =>
      obtain ⟨v', H', I', rv, y, rfl, q'⟩ := hq
      obtain ⟨t, rfl⟩ := rv
      exact ⟨.str y, H', I', ⟨t, rfl⟩, q'⟩
    | next => exact hq
    | brk => exact hq
    | cont => exact hq
end
end G
set_option Elab.async false
set_option linter.all false
namespace G
open PySem PySem.Spec PyProof.Rows L2
section
open PySem.Sem (wp)
/-- bool(o), o an instance without __bool__ and __len__ -/
theorem meets_bool_inst {K : PySem.W.Frag} {x C : Addr} {ox : Obj} {od : Option Obj} (h1 : PySem.W.findIn K (.ref C) "__bool__" = some none) (h2 : PySem.W.findIn K (.ref C) "__len__" = some none) :
    Meets (Builtin.«bool.__new__» ⟨[.type "bool", .ref x], []⟩) (fun _ R s => (K.In s.heap ∧ PySem.W.InstAt s.heap x ox C od) ∧ ∀ tk, R (.ok (.ret (.bool true))) { s with toks := tk }) :=
  Meets.of_wp fun prog w A R s hs => by
    obtain ⟨hp, g, d, tk, os⟩ := s
    obtain ⟨⟨hK, hI⟩, hq⟩ := hs
    have hK : K.In hp := hK
    have hI : PySem.W.InstAt hp x ox C od := hI
    have tr : ∀ (tk : Nat) (A' : Around) (E' : Value → Shared → Prop) (Q' : Bool → Shared → Prop), Q' true ⟨hp, g, d, tk, os⟩ → wpAny (model prog w) A' (truthy (.ref x)) Q' E' ⟨hp, g, d, tk, os⟩ := by
      intro tk A' E' Q' q
      unfold truthy
      refine wpAny_bind (m := callSpecial? (.ref x) (Str.ofString "__bool__")) (wpAny_bind (wpAny_bind (hI.type.at ((PySem.W.looks_findIn hK h1).at (wpAny_pure ?_)))))
      refine wpAny_bind (wpAny_bind (hI.type.at ((PySem.W.looks_findIn hK h2).at ?_)))
      exact wpAny_pure q
    have f1 := F.conv_sub_bool
    repeat (any_goals (first | assumption | (with_reducible refine tr _ _ _ _ ?_) | wp_step))
    all_goals first | exact ⟨_, rfl, hq _⟩ | exact hq _ | skip
end
section
variable {X : Cx} {x : Str} {p pos : Pos} {C : Addr}
theorem call_boolI (h1 : PySem.W.findIn X.K (.ref C) "__bool__" = some none) (h2 : PySem.W.findIn X.K (.ref C) "__len__" = some none) :
    CallR X (.type "bool") (fun xs H Q => ∃ a dx fs, xs = [.ref a] ∧ H a = some (.ins C dx fs) ∧ Q (.bl true) H) := by
  intro pins s σ H xs us Q I r h
  obtain ⟨a, dx, fs, rfl, ha, q⟩ := h
  obtain rfl := Vals.ref1 r
  obtain ⟨mA, J, _⟩ := ins_get I.hok ha
  obtain ⟨od, J, _⟩ := J.look
  exact call_bool_1 (meets_bool_inst (ox := _) (od := some od) h1 h2) ⟨⟨I.kIn, J⟩, fun tk => ⟨rfl, .bl true, H, I.tok tk, rfl, q⟩⟩
/-- C() where C has no __init__ of its own -/
structure Mk0 (K : PySem.W.Frag) (mg : Str → Option Value) (x : Str) (C : Addr) : Prop where
  nm : mg x = some (.ref C)
  makes : PySem.W.makesIn K C = true
  init : PySem.W.findIn K (.ref C) "__init__" = some (some (.builtin "object.__init__"))
  top : PySem.W.mroIn K C (.type "object") = some true
  kp : PySem.W.keepIn K (.ref C) = true
def tMk0 (C : Addr) : TE := fun _ H Q => ∀ x dx, H x = none → H dx = none → dx ≠ x → Q (.ref x) (upd (upd H dx (.own x)) x (.ins C dx []))
theorem pe_mk0 (M : Mk0 X.K X.mg x C) (hg : Gl X x) (hdb : (x == ("__debug__" : Str)) = false := by decide) : PE X (.Call (.Name x p) [] [] pos) (tMk0 C) := by
  refine ⟨fun pins s σ H Q I h => wpAny_Call_Name_kw (ld_glob I hg M.nm ?_ hdb)⟩
  refine PySem.W.callWith_K0 I.kIn M.kp ?_
  have q := h (s.heap.objs.size + 1) s.heap.objs.size (I.hok.fresh (Nat.le_succ _)) (I.hok.fresh (Nat.le_refl _)) (Nat.ne_of_lt (Nat.lt_succ_self _))
  have J := Inv.made (C := C) I
  refine PySem.wpAny_call (make_map0 I.kIn M.makes M.init (fun self => PySem.W.Looks.of_pure (PySem.W.oi_bind self)) ?_)
  have kx : X.K.In ((s.heap.push PySem.W.emptyDict).push (PySem.W.instObj C s.heap.objs.size)) := J.kIn
  have hx : ((s.heap.push PySem.W.emptyDict).push (PySem.W.instObj C s.heap.objs.size)).get? (s.heap.objs.size + 1) = some (PySem.W.instObj C s.heap.objs.size) := by
    rw [← Heap.size_push s.heap PySem.W.emptyDict]
    exact Heap.get?_push_size _ rfl
  have t1 : PySem.W.Looks (model X.prog X.w) ((s.heap.push PySem.W.emptyDict).push (PySem.W.instObj C s.heap.objs.size)) (typeOf (.ref (s.heap.objs.size + 1))) (.ref C) := (PySem.W.Looks.ld hx).andThen .now
  refine codeAny_call_builtin PySem.W.oi_plain PySem.W.entry_oi (PySem.W.check_slot (owner := "object") (n := "__init__") PySem.W.oi_kind PySem.W.oi_split (t1.andThen (PySem.W.looks_mroIn kx M.top)) (PySem.W.oi_args _) ?_)
  rw [PySem.W.oi_run]
  exact wpAny_pure ⟨rfl, .ref (s.heap.objs.size + 1), _, J, rfl, q⟩
end
end G
set_option Elab.async false
set_option linter.all false
namespace G
open PySem PySem.Spec PyProof.Rows L2
section
variable {X : Cx} {pos : Pos} {k : Nat} {a b : Expr} {ta tb : TE}
theorem pe_eqD (hr : Room k X.A) (ha : PE X a ta) (hb : PE X b tb) : PE X (.Compare a [.Eq] [b] pos) (tOp (rEqD X.K) ta tb) := pe_cmpR (op_eqD hr.units) ha hb (nomark _)
theorem pt_eqD (hr : Room k X.A) (ha : PE X a ta) (hb : PE X b tb) : PT X (.Compare a [.Eq] [b] pos) (tTest (tOp (rEqD X.K) ta tb)) := pt_cmpR (op_eqD hr.units) ha hb (nomark _)
theorem pe_neD (hr : Room k X.A) (ha : PE X a ta) (hb : PE X b tb) : PE X (.Compare a [.NotEq] [b] pos) (tOp (rNeD X.K) ta tb) := pe_cmpR (op_neD hr.units) ha hb (nomark _)
theorem pt_neD (hr : Room k X.A) (ha : PE X a ta) (hb : PE X b tb) : PT X (.Compare a [.NotEq] [b] pos) (tTest (tOp (rNeD X.K) ta tb)) := pt_cmpR (op_neD hr.units) ha hb (nomark _)
theorem pe_eqS (ha : PE X a ta) (hb : PE X b tb) : PE X (.Compare a [.Eq] [b] pos) (tOp rEq ta tb) := pe_cmpR op_eq ha hb (nomark _)
theorem pt_eqS (ha : PE X a ta) (hb : PE X b tb) : PT X (.Compare a [.Eq] [b] pos) (tTest (tOp rEq ta tb)) := pt_cmpR op_eq ha hb (nomark _)
theorem pe_neS (ha : PE X a ta) (hb : PE X b tb) : PE X (.Compare a [.NotEq] [b] pos) (tOp rNe ta tb) := pe_cmpR op_ne ha hb (nomark _)
theorem pt_neS (ha : PE X a ta) (hb : PE X b tb) : PT X (.Compare a [.NotEq] [b] pos) (tTest (tOp rNe ta tb)) := pt_cmpR op_ne ha hb (nomark _)
theorem pe_ixL (K : PySem.W.Frag) (ha : PE X a ta) (hb : PE X b tb) (hs : PlainIx b := by exact fun _ _ => rfl) (hK : X.K = K := by rfl) : PE X (.Subscript a b pos) (tOp (rIxL K) ta tb) := by
  subst hK
  exact pe_ix ix_list ha hb hs
theorem pe_ixT (K : PySem.W.Frag) (ha : PE X a ta) (hb : PE X b tb) (hs : PlainIx b := by exact fun _ _ => rfl) (hK : X.K = K := by rfl) : PE X (.Subscript a b pos) (tOp (rIxT K) ta tb) := by
  subst hK
  exact pe_ix ix_tup ha hb hs
/-- == and != of own instances; K is said, for a comprehension's reading may not hang on its frame -/
theorem pe_eqOwn {K : PySem.W.Frag} {C : Addr} {j : Nat} {sp : Sp} (M : EqG X.prog X.w K X.mg X.base C j sp) (gd : X.A.guards = some []) (hr : Room k X.A) (ha : PE X a ta) (hb : PE X b tb) (hj : j ≤ k := by decide) (hK : X.K = K := by rfl) :
    PE X (.Compare a [.Eq] [b] pos) (tOp (rEqOwn K C sp) ta tb) := by
  subst hK
  exact pe_cmpR (op_eqOwn M gd (hr.mono hj)) ha hb (nomark _)
theorem pt_eqOwn {K : PySem.W.Frag} {C : Addr} {j : Nat} {sp : Sp} (M : EqG X.prog X.w K X.mg X.base C j sp) (gd : X.A.guards = some []) (hr : Room k X.A) (ha : PE X a ta) (hb : PE X b tb) (hj : j ≤ k := by decide) (hK : X.K = K := by rfl) :
    PT X (.Compare a [.Eq] [b] pos) (tTest (tOp (rEqOwn K C sp) ta tb)) := by
  subst hK
  exact pt_cmpR (op_eqOwn M gd (hr.mono hj)) ha hb (nomark _)
theorem pe_neOwn {K : PySem.W.Frag} {C : Addr} {j : Nat} {sp : Sp} (M : EqG X.prog X.w K X.mg X.base C j sp) (N : NeC K C) (gd : X.A.guards = some []) (hr : Room k X.A) (ha : PE X a ta) (hb : PE X b tb) (hj : j + 1 ≤ k := by decide) (hK : X.K = K := by rfl) :
    PE X (.Compare a [.NotEq] [b] pos) (tOp (rNeOwn K C sp) ta tb) := by
  subst hK
  exact pe_cmpR (op_neOwn M N gd (hr.mono hj)) ha hb (nomark _)
theorem pt_neOwn {K : PySem.W.Frag} {C : Addr} {j : Nat} {sp : Sp} (M : EqG X.prog X.w K X.mg X.base C j sp) (N : NeC K C) (gd : X.A.guards = some []) (hr : Room k X.A) (ha : PE X a ta) (hb : PE X b tb) (hj : j + 1 ≤ k := by decide) (hK : X.K = K := by rfl) :
    PT X (.Compare a [.NotEq] [b] pos) (tTest (tOp (rNeOwn K C sp) ta tb)) := by
  subst hK
  exact pt_cmpR (op_neOwn M N gd (hr.mono hj)) ha hb (nomark _)
end
end G
set_option Elab.async false
set_option linter.all false
namespace G
open PySem PySem.Spec PyProof.Rows L2
section
variable {prog : Program} {w : World} {A : Around} {E : Value → Shared → Prop} {s : Shared} {K : PySem.W.Frag} {x C dx : Addr} {ox : Obj} {od : Option Obj}
/-- a built-in value's own != hands the question on -/
def Hands (prog : Program) (w : World) (s : Shared) (T : String) (a b : Value) : Prop :=
  s.TypeIs a T ∧ ∃ id, Slot T (cmpInfo .NotEq).2.1 id ∧ ∀ (A : Around) (E Q : Value → Shared → Prop), Q .notImplemented s → wpAny (model prog w) A (call (.builtin id) [a, b]) Q E s
theorem rc_ne_right {f : Addr} {a : Value} {T : String} {Q : Value → Shared → Prop} (hu : A.in1.units < cLine) (X : K.In s.heap) (I : PySem.W.InstAt s.heap x ox C od) (ha : Hands prog w s T a (.ref x))
    (sub : PySem.W.mroIn K C (.type T) = some false) (hm : PySem.W.mroIn K C (.type "object") = some true) (hn : PySem.W.findIn K (.ref C) "__ne__" = some (some (.builtin "object.__ne__")))
    (he : PySem.W.findIn K (.ref C) "__eq__" = some (some (.ref f))) (hf : PySem.W.isFn K (.ref f) = true)
    (h : wpAny (model prog w) A.in1 (call (.ref f) [.ref x, a]) (fun v s' => ∃ k, v = .bool k ∧ Q (.bool (!k)) s') E s) : wpAny (model prog w) A (richCompare .NotEq a (.ref x)) Q E s := by
  obtain ⟨ta, id, sl, dec⟩ := ha
  have u0 : A.units < cLine := Nat.lt_of_succ_lt (show A.units + 1 < cLine from hu)
  have two : wpAny (model prog w) A (tryCompare (.ref x) "__ne__" a) (fun r s' => ∃ v, r = some v ∧ Q v s') E s := try_ne hu X I hm hn he hf (wpAny_mono h (fun v s' hv => by
    obtain ⟨k, rfl, hq⟩ := hv
    exact ⟨k, rfl, _, rfl, hq⟩) fun _ _ z => z)
  simp only [richCompare, ta.oneThing_none]
  refine wpAny_holding (wpAny_bind (wpAny_cRoomFor u0 (wpAny_bind (wpAny_typeOf ta (wpAny_bind (I.type.here ?_))))))
  have ne : (Value.type T != Value.ref C) = true := rfl
  simp only [ne, if_true]
  refine wpAny_bind ((PySem.W.looks_mroIn X sub).here ?_)
  simp only [Bool.false_eq_true, if_false, Bool.not_false, if_true]
  refine wpAny_bind (m := tryCompare a _ (.ref x)) (wpAny_tryCompare_declines ta sl (dec _ _ _ ⟨rfl, ?_⟩))
  refine wpAny_bind (m := tryCompare (.ref x) _ a) (wpAny_mono two (fun r s' z => ?_) fun _ _ z => z)
  obtain ⟨v, rfl, hq⟩ := z
  exact wpAny_pure hq
end
end G
set_option Elab.async false
set_option linter.all false
namespace G
open PySem PySem.Spec PyProof.Rows L2
section
variable {prog : Program} {w : World} {s : Shared} {K : PySem.W.Frag} {x C dx : Addr} {ox : Obj} {od : Option Obj}
theorem hands_none (x : Addr) : Hands prog w s "NoneType" .none (.ref x) := by
  refine ⟨rfl, _, F.slot_NoneType_ne, fun A E Q h => ?_⟩
  exact call_gives F.slot_NoneType_ne rfl F.entry_NoneType_ne (F.args_NoneType_ne_2 _ _) (m := .val .notImplemented) (.of_wp fun M A E s Q h => by obtain ⟨hp, g, d, tk, os⟩ := s; wp_walk; exact ⟨_, rfl, h⟩) h
theorem asInt_inst {M : Model} {A : Around} {E : Value → Shared → Prop} {Q : Option Int → Shared → Prop} (hx : s.heap.get? x = some (PySem.W.instObj C dx)) (h : Q none s) : wpAny M A (asInt? (.ref x)) Q E s := by
  unfold asInt?
  exact wpAny_bind (wpAny_load hx (wpAny_pure h))
theorem asStr_inst {M : Model} {A : Around} {E : Value → Shared → Prop} {Q : Option Str → Shared → Prop} (hx : s.heap.get? x = some (PySem.W.instObj C dx)) (h : Q none s) : wpAny M A (asStr? (.ref x)) Q E s := by
  unfold asStr?
  exact wpAny_bind (wpAny_load hx (wpAny_pure h))
theorem hands_int (i : Int) (t : Tok) (hx : s.heap.get? x = some (PySem.W.instObj C dx)) : Hands prog w s "int" (.int i t) (.ref x) := by
  refine ⟨rfl, _, F.slot_int_ne, fun A E Q h => ?_⟩
  refine PySem.wpAny_call (codeAny_call_builtin F.slot_int_ne.plain F.entry_int_ne (F.slot_int_ne.check _ _ _ _ _ _ _ _ rfl (F.args_int_ne_2 _ _) ?_))
  show wpAny _ _ (Builtin.Int.intBinary "__ne__" (fun x y => ret (.bool (x != y))) false ⟨[.int i t, .ref x], []⟩) _ _ _
  unfold Builtin.Int.intBinary
  refine wpAny_bind (m := slotArgs "__ne__" 1 _) (wpAny_pure ?_)
  refine wpAny_bind (wpAny_pure ?_)
  refine wpAny_bind (asInt_inst hx ?_)
  exact wpAny_bind (wpAny_rule (wpAny_pure h))
theorem hands_bool (i : Bool) (hx : s.heap.get? x = some (PySem.W.instObj C dx)) : Hands prog w s "bool" (.bool i) (.ref x) := by
  refine ⟨rfl, _, F.slot_bool_ne, fun A E Q h => ?_⟩
  refine PySem.wpAny_call (codeAny_call_builtin F.slot_bool_ne.plain F.entry_int_ne (F.slot_bool_ne.check _ _ _ _ _ _ _ _ rfl (F.args_int_ne_2 _ _) ?_))
  show wpAny _ _ (Builtin.Int.intBinary "__ne__" (fun x y => ret (.bool (x != y))) false ⟨[.bool i, .ref x], []⟩) _ _ _
  unfold Builtin.Int.intBinary
  refine wpAny_bind (m := slotArgs "__ne__" 1 _) (wpAny_pure ?_)
  refine wpAny_bind (wpAny_pure ?_)
  refine wpAny_bind (asInt_inst hx ?_)
  exact wpAny_bind (wpAny_rule (wpAny_pure h))
theorem hands_str (i : Str) (t : Tok) (hx : s.heap.get? x = some (PySem.W.instObj C dx)) : Hands prog w s "str" (.str i t) (.ref x) := by
  refine ⟨rfl, _, F.slot_str_ne, fun A E Q h => ?_⟩
  refine PySem.wpAny_call (codeAny_call_builtin F.slot_str_ne.plain F.entry_str_ne (F.slot_str_ne.check _ _ _ _ _ _ _ _ rfl (F.args_str_ne_2 _ _) ?_))
  unfold Builtin.«str.__ne__» Builtin.Str.strCompare
  refine wpAny_bind (m := Builtin.Str.strSlot "__ne__" 1 _) (wpAny_pure ?_)
  refine wpAny_bind (asStr_inst hx ?_)
  exact wpAny_bind (wpAny_rule (wpAny_pure h))
theorem inst_not {M : Model} {A : Around} {E : Value → Shared → Prop} {Q : Bool → Shared → Prop} {T : String} (X : K.In s.heap) (I : PySem.W.InstAt s.heap x ox C od) (sub : PySem.W.mroIn K C (.type T) = some false) (h : Q false s) : wpAny M A (isInstance (.ref x) (.type T)) Q E s := by
  unfold isInstance
  exact wpAny_bind (I.type.here ((PySem.W.looks_mroIn X sub).here h))
theorem hands_list {a : Addr} {its : Array Value} {n : Nat} (ha : s.heap.get? a = some { cls := .type "list", data := .seq its n }) (X : K.In s.heap) (I : PySem.W.InstAt s.heap x ox C od) (sub : PySem.W.mroIn K C (.type "list") = some false) : Hands prog w s "list" (.ref a) (.ref x) := by
  have ty : s.TypeIs (.ref a) "list" := ⟨_, ha, rfl⟩
  refine ⟨ty, _, F.slot_list_ne, fun A E Q h => ?_⟩
  refine PySem.wpAny_call (codeAny_call_builtin F.slot_list_ne.plain F.entry_list_ne (F.slot_list_ne.check _ _ _ _ _ _ _ _ ty (F.args_list_ne_2 _ _) ?_))
  unfold Builtin.«list.__ne__»
  refine wpAny_bind (m := slotArgs "__ne__" 1 _) (wpAny_pure ?_)
  refine wpAny_bind (m := isInstance (.ref x) (.type "list")) (inst_not X I sub ?_)
  exact wpAny_pure h
theorem hands_tuple {a : Addr} (ty : s.TypeIs (.ref a) "tuple") (X : K.In s.heap) (I : PySem.W.InstAt s.heap x ox C od) (sub : PySem.W.mroIn K C (.type "tuple") = some false) : Hands prog w s "tuple" (.ref a) (.ref x) := by
  refine ⟨ty, _, F.slot_tuple_ne, fun A E Q h => ?_⟩
  refine PySem.wpAny_call (codeAny_call_builtin F.slot_tuple_ne.plain F.entry_tuple_ne (F.slot_tuple_ne.check _ _ _ _ _ _ _ _ ty (F.args_tuple_ne_2 _ _) ?_))
  unfold Builtin.«tuple.__ne__»
  refine wpAny_bind (m := slotArgs "__ne__" 1 _) (wpAny_pure ?_)
  refine wpAny_bind (m := isInstance (.ref x) (.type "tuple")) (inst_not X I sub ?_)
  exact wpAny_pure h
end
end G
set_option Elab.async false
set_option linter.all false
namespace G
open PySem PySem.Spec PyProof.Rows L2
/-- a built-in value on the left -/
inductive Lft (H : Hp) : V → String → Prop where
  | non : Lft H .non "NoneType"
  | bl (b : Bool) : Lft H (.bl b) "bool"
  | int (i : Int) : Lft H (.int i) "int"
  | str (z : Str) : Lft H (.str z) "str"
  | lst {a : Addr} {xs : List V} (e : H a = some (.lst xs)) : Lft H (.ref a) "list"
  | tup {a : Addr} {xs : List V} (e : H a = some (.tup xs)) : Lft H (.ref a) "tuple"
def lfts : List String := ["NoneType", "bool", "int", "str", "list", "tuple"]
theorem Lft.mem {H : Hp} {v : V} {T : String} (h : Lft H v T) : T ∈ lfts := by cases h <;> simp [lfts]
def rNeRef (K : PySem.W.Frag) (C : Addr) (sp : Sp) : R2 := fun x y H Q => ∃ a dx fs T, y = .ref a ∧ H a = some (.ins C dx fs) ∧ Lft H x T ∧ sp [y, x] H (fun v H' => ∃ k, v = .bl k ∧ Q (.bl (!k)) H') E0
section
variable {X : Cx} {k : Nat} {C : Addr} {ps : List Str} {sp : Sp}
theorem op_neRef (M : EqG X.prog X.w X.K X.mg X.base C k sp) (N : NeC X.K C) (sub : ∀ T ∈ lfts, PySem.W.mroIn X.K C (.type T) = some false) (gd : X.A.guards = some []) (hr : Room (k + 1) X.A) : OpR X (compareOp .NotEq) (rNeRef X.K C sp) := by
  intro pins s σ H x y v u Q I rx ry h
  obtain ⟨f, fd, F, he, hf, hb⟩ := M.ex
  obtain ⟨a, dx, fs, T, rfl, ha, lf, q⟩ := h
  cases ry
  obtain ⟨mA, J, _⟩ := ins_get I.hok ha
  have ob := J.obj
  obtain ⟨od, J, _⟩ := J.look
  have hands : Hands X.prog X.w s T v (.ref a) := by
    cases lf with
    | non => cases rx; exact hands_none a
    | bl b => cases rx; exact hands_bool b ob
    | int i =>
      obtain ⟨t, rfl⟩ := rx
      exact hands_int i t ob
    | str z =>
      obtain ⟨t, rfl⟩ := rx
      exact hands_str z t ob
    | @lst b xs ea =>
      cases (show v = Value.ref b from rx)
      obtain ⟨_, _, n, _, h1⟩ := (show ObjOk X.prog X.w H s.heap b (.lst xs) from I.hok b _ ea)
      exact hands_list h1 I.kIn J (sub _ (by simp [lfts]))
    | @tup b xs ea =>
      cases (show v = Value.ref b from rx)
      obtain ⟨_, _, _, o, h1, h2, _⟩ := (show ObjOk X.prog X.w H s.heap b (.tup xs) from I.hok b _ ea)
      exact hands_tuple ⟨o, h1, h2⟩ I.kIn J (sub _ (by simp [lfts]))
  refine rc_ne_right (hr.in1.units0) I.kIn J hands (sub _ lf.mem) N.mro N.ne he hf (PySem.wpAny_call (codeAny_mono (run_in1 F gd hr I (us := [.ref a, v]) (vs := [.ref a, x]) (binds_to hb I.kIn rfl) (.cons rfl (.cons rx .nil)) q) fun r s' hq => ?_))
  cases r with
  | error e => exact hq
  | ok fl =>
    cases fl with
    | ret z =>
      obtain ⟨v', H', I', rv, k, rfl, q'⟩ := hq
      cases rv
      exact ⟨k, rfl, .bl (!k), H', I', rfl, q'⟩
    | next => exact hq
    | brk => exact hq
    | cont => exact hq
/-- x != o: an own x of another class, or a built-in one -/
def rNeMix (K : PySem.W.Frag) (C C2 : Addr) (sp sp2 : Sp) : R2 := fun x y H Q => rNeOwn K C2 sp2 x y H Q ∨ rNeRef K C sp x y H Q
theorem pe_neMix {pos : Pos} {n k2 : Nat} {a b : Expr} {ta tb : TE} {C2 : Addr} {K : PySem.W.Frag} {sp2 : Sp} (M : EqG X.prog X.w K X.mg X.base C k sp) (M2 : EqG X.prog X.w K X.mg X.base C2 k2 sp2) (N : NeC K C) (N2 : NeC K C2)
    (sub : ∀ T ∈ lfts, PySem.W.mroIn K C (.type T) = some false) (gd : X.A.guards = some []) (hr : Room n X.A) (ha : PE X a ta) (hb : PE X b tb) (hj : k + 1 ≤ n := by decide) (hj2 : k2 + 1 ≤ n := by decide) (hK : X.K = K := by rfl) :
    PE X (.Compare a [.NotEq] [b] pos) (tOp (rNeMix K C C2 sp sp2) ta tb) := by
  subst hK
  refine pe_cmpR (r := rNeMix X.K C C2 sp sp2) ?_ ha hb (nomark _)
  intro pins s σ H x y v u Q I rx ry h
  rcases h with h | h
  · exact op_neOwn M2 N2 gd (hr.mono hj2) pins s σ H x y v u Q I rx ry h
  · exact op_neRef M N sub gd (hr.mono hj) pins s σ H x y v u Q I rx ry h
end
end G
set_option Elab.async false
set_option linter.all false
namespace Lk
open PySem PySem.Spec PyProof.Rows L2 G
def top (i : Nat) : Stmt := PySem.Challenge.pw_overlapturns_k02_worlds_of_texts.main.body.getD i (.Pass ⟨0, 0, 0, 0⟩)
abbrev s__law_purse : Stmt := top 15
theorem sc__law_purse : FnScope ["cells", "k", "mixed", "cell", "own"] ["cells", "k"] (defScope s__law_purse) := ⟨rfl, rfl, rfl, by decide +kernel, rfl, by decide +kernel, by decide +kernel⟩
abbrev s__law_draw : Stmt := top 16
theorem sc__law_draw : FnScope ["purse", "many", "mixed", "digit"] ["purse", "many"] (defScope s__law_draw) := ⟨rfl, rfl, rfl, by decide +kernel, rfl, by decide +kernel, by decide +kernel⟩
abbrev s__law_signs : Stmt := top 17
theorem sc__law_signs : FnScope ["purse", "some", "size", "k"] ["purse"] (defScope s__law_signs) := ⟨rfl, rfl, rfl, by decide +kernel, rfl, by decide +kernel, by decide +kernel⟩
abbrev s__law_names : Stmt := top 18
theorem sc__law_names : FnScope ["purse", "many", "used", "barred", "found", "k", "stem", "fresh", "j"] ["purse", "many", "used"] (defScope s__law_names) := ⟨rfl, rfl, rfl, by decide +kernel, rfl, by decide +kernel, by decide +kernel⟩
/-- a purse: three ints, the first one small, the second one not negative -/
def Pur (H : Hp) (p : Addr) : Prop := ∃ a b c : Int, H p = some (.lst [.int a, .int b, .int c]) ∧ 0 ≤ a ∧ a < 2147483629 ∧ 0 ≤ b
/-- all that was tracked stands, but what stands at p -/
def But (p : Addr) (H H' : Hp) : Prop := ∀ b o, b ≠ p → H b = some o → H' b = some o
theorem But.refl (p : Addr) (H : Hp) : But p H H := fun _ _ _ h => h
theorem But.trans {p : Addr} {H H1 H2 : Hp} (a : But p H H1) (b : But p H1 H2) : But p H H2 := fun c o n h => b c o n (a c o n h)
theorem But.same {p : Addr} {H H1 : Hp} (a : Same H H1) : But p H H1 := fun c o _ h => a c o h
theorem But.upd {p : Addr} {H H1 : Hp} {o : HO} (a : But p H H1) : But p H (upd H1 p o) := fun c u n h => by rw [upd_ne n]; exact a c u n h
theorem But.new {p q : Addr} {H H1 : Hp} {o : HO} (a : But p H H1) (h : H1 q = none) : But p H (L2.upd H1 q o) := fun c u n e => by
  have e1 := a c u n e
  rw [upd_ne (ne_of_none e1 h)]
  exact e1
theorem Same.new {q : Addr} {H H1 : Hp} {o : HO} (a : Same H H1) (h : H1 q = none) : Same H (L2.upd H1 q o) := fun c u e => by
  have e1 := a c u e
  rw [upd_ne (ne_of_none e1 h)]
  exact e1
theorem Pur.mono {H H' : Hp} {p : Addr} (h : Pur H p) (s : Same H H') : Pur H' p := by
  obtain ⟨a, b, c, e, r⟩ := h
  exact ⟨a, b, c, s _ _ e, r⟩
theorem Pur.new {H : Hp} {p q : Addr} {o : HO} (h : Pur H p) (hn : H q = none) : Pur (L2.upd H q o) p := h.mono (Same.new (Same.refl H) hn)

local macro_rules | `(tactic| walk_at "rd") => `(tactic| repeat (first
  | (refine ⟨_, rfl, ?_⟩)
  | (refine ⟨_, _, rfl, rfl, Or.inr ⟨by decide, by decide⟩, ?_⟩)
  | (refine ⟨_, _, rfl, rfl, Or.inl ⟨by decide, by decide⟩, ?_⟩)
  | (refine ⟨_, _, rfl, rfl, (by show (0 : Int) < _; decide), ?_⟩)
  | (refine ⟨_, _, rfl, rfl, (by decide), ?_⟩)
  | (refine ⟨_, _, rfl, rfl, ?_⟩)
  | (refine .inl ⟨_, rfl, ?_⟩)))
theorem lz {n : Nat} (h : n ≤ 64) : n ≤ sizeLine := Nat.le_trans h (by decide)
theorem cut4 {ns : List Int} {i : Nat} {x : V} (h : (cutV (ns.map V.int) none (some 4))[i]? = some x) : ∃ z : Int, x = .int z := by
  have m := List.mem_of_getElem? h
  unfold cutV at m
  have m2 := List.mem_of_mem_drop (List.mem_of_mem_take m)
  obtain ⟨z, _, rfl⟩ := List.mem_map.mp m2
  exact ⟨z, rfl⟩
theorem nsAt {ns : List Int} {k : Nat} (h : k < (ns.map V.int).length) : ∃ z : Int, atI (ns.map V.int) (k : Int) = some (.int z) := by
  have h' : k < ns.length := by simpa using h
  exact ⟨ns[k], atI_nat (by simp [h'])⟩
structure Txt (K : PySem.W.Frag) (mg : Str → Option Value) : Prop where
  b_int : mg "int" = none
  b_len : mg "len" = none
  b_abs : mg "abs" = none
  b_divmod : mg "divmod" = none
  b_range : mg "range" = none
def spPurse (K : PySem.W.Frag) : Sp := fun vs H Q _ => ∃ (a : Addr) (ns : List Int) (k : Nat), vs = [.ref a, .int k] ∧ SqL K H a (ns.map V.int) ∧ k < 64 ∧
  ∀ p H', H p = none → Same H H' → Pur H' p → Q (.ref p) H'
def spDraw : Sp := fun vs H Q _ => ∃ (p : Addr) (m : Int), vs = [.ref p, .int m] ∧ Pur H p ∧ 0 < m ∧ m < 1073741824 ∧
  ∀ d H', 0 ≤ d → d < m → Pur H' p → But p H H' → Q (.int d) H'
section
variable {P : Program} {w : World} {K : PySem.W.Frag} {mg : Str → Option Value} {base : Heap}
theorem ok_purse {f : Addr} {fd : FuncData} (F : Fun K "_law_purse" "_law_purse" s__law_purse f fd) (T : Txt K mg) : FG P w K mg base CX0 1 f fd ["cells", "k"] (spPurse K) := by
  refine fun_okG F sc__law_purse (fun vs H Q E h => ?_) (fun cdv A outer s H vs Q E gd hr h => ?_)
  · obtain ⟨_, _, _, rfl, _⟩ := h
    rfl
  have nd := sc__law_purse.nd
  obtain ⟨a, ns, k, rfl, hS, hk, q⟩ := h
  -- cells 0, k 1, mixed 2, cell 3, own 4
  refine ⟨_, (pss_cons (ps_set (i := 2) nd rfl (Or.inl rfl) (pe_op op_add pe_int (pe_op op_mul pe_int (pv 1))))
      (pss_cons (ps_for PassesOwn.never rfl (pi_list (pe_slice sl_list (pv 0) po_none (po_some pe_int))) (pg_name (i := 3) nd rfl (Or.inl rfl))
        (pss_one (ps_set (i := 2) nd rfl (Or.inl rfl) (pe_op op_mod (pe_op op_add (pe_op op_add (pe_op op_mul (pv 2) pe_int) (pe_op op_mul (pe_op op_mod (pe_callTy call_int1 (by rfl) T.b_int (by decide +kernel) (pa_cons (pv 3) pa_nil)) pe_int) (pe_op op_add (pv 1) pe_int))) pe_int) pe_int))))
      (pss_cons (ps_set (i := 4) nd rfl (Or.inl rfl) (pe_ifExp (pt_cmpR op_lt (pv 1) (pe_callB call_len_seq (by rfl) T.b_len (by decide +kernel) (pa_cons (pv 0) pa_nil)) (nomark _)) (pe_callTy call_int1 (by rfl) T.b_int (by decide +kernel) (pa_cons (pe_ixL K (pv 0) (pv 1)) pa_nil)) (pv 2)))
      (pss_one (ps_ret (pe_lst (pa_cons (pe_op op_mod (pe_callTy call_int1 (by rfl) T.b_int (by decide +kernel) (pa_cons (pv 4) pa_nil)) pe_int) (pa_cons (pe_ifExp (PW.pt (pw_or (pt_cmpR op_lt (pv 4) pe_int (nomark _)) (pw_or1 (pt_cmpR op_ge (pv 4) (pe_op op_pow pe_int pe_int) (nomark _))))) (pe_callB call_abs (by rfl) T.b_abs (by decide +kernel) (pa_cons (pv 4) pa_nil)) pe_int) (pa_cons (pv 1) pa_nil))))))))), ?_⟩
  have fin : ∀ (z : Int) (H2 : Hp) (m : Int) (v : Option V), Same H H2 → (tRet (tLst (tCons (tOp (rI (fun x j => 0 < j) fun i j => V.int (i % j)) (tCB (fun xs H Q => (∃ i, xs = [V.int i] ∧ Q (V.int i) H) ∨ ∃ k, xs = [V.bl k] ∧ Q (V.int (if k = true then 1 else 0)) H) (tCons (tVar 4) tNil)) (tC (V.int 2147483629)))
      (tCons (tIf (tOr (tTest (tOp (rI0 fun i j => V.bl (decide (i < j))) (tVar 4) (tC (V.int 0)))) (tTest (tOp (rI0 fun i j => V.bl (decide (j ≤ i))) (tVar 4) (tOp (rI CPow fun i j => V.int (i ^ j.toNat)) (tC (V.int 10)) (tC (V.int 18))))))
        (tCB (fun xs H Q => ∃ i, xs = [V.int i] ∧ Q (V.int (if i < 0 then -i else i)) H) (tCons (tVar 4) tNil)) (tC (V.int 0))) (tCons (tVar 1) tNil))))) { nx := fun _ H' => Q .non H', rt := Q } [some (.ref a), some (.int k), some (.int m), v, some (.int z)] H2 := by
    intro z H2 m v s1
    have last : ∀ e : Int, 0 ≤ e → ∀ p, H2 p = none → Q (.ref p) (upd H2 p (.lst [.int (z % 2147483629), .int e, .int k])) := fun e he p hp =>
      q p _ (s1.free hp) (Same.new s1 hp) ⟨_, _, _, upd_same, Int.emod_nonneg _ (by decide), Int.emod_lt_of_pos _ (by decide), he⟩
    walk_at "rd"
    refine ite2 (fun c => ?_) (fun c => ?_)
    · refine ⟨_, rfl, _, rfl, _, rfl, lz (by simp), last _ (by split <;> omega)⟩
    · refine ⟨_, rfl, _, _, rfl, rfl, ⟨by decide, by decide, by decide⟩, _, _, rfl, rfl, _, rfl, ?_⟩
      refine ite2 (fun d => ?_) (fun d => ?_)
      · refine ⟨_, rfl, _, rfl, _, rfl, lz (by simp), last _ (by split <;> omega)⟩
      · refine ⟨_, rfl, lz (by simp), last _ (Int.le_refl _)⟩
  walk_at "rd"
  refine ⟨_, _, rfl, hS, fun l hl => ?_⟩
  refine ⟨l, rfl, ⟨_, SqL.of upd_same⟩, for_list (K := K) (a := l) (xs := cutV (ns.map V.int) none (some 4)) (fun i σ H2 => ∃ (m : Int) (v : Option V), σ = [some (.ref a), some (.int k), some (.int m), v, none] ∧ Same H H2 ∧ H2 l = some (.lst (cutV (ns.map V.int) none (some 4))))
      ⟨_, none, rfl, Same.new (Same.refl H) hl, upd_same⟩ (fun i σ H2 _ ⟨_, _, _, _, s2⟩ => SqL.of s2) ?_ ?_⟩
  · rintro i x σ H2 hx ⟨m, v, rfl, s1, s2⟩
    obtain ⟨z, rfl⟩ := cut4 hx
    walk_at "rd"
    refine ⟨.inl ⟨?_, ?_⟩, ?_⟩
    · have := Int.emod_nonneg z (by decide : (1000003 : Int) ≠ 0); omega
    · have := Int.emod_lt_of_pos z (by decide : (0 : Int) < 1000003); omega
    walk_at "rd"
    exact ⟨_, _, rfl, s1, s2⟩
  · rintro σ H2 ⟨m, v, rfl, s1, s2⟩
    refine ⟨_, rfl, _, rfl, _, _, rfl, .inl (s1.seq hS), _, _, rfl, rfl, _, rfl, ?_⟩
    refine ite2 (fun c => ?_) (fun c => ?_)
    · obtain ⟨z, hz⟩ := nsAt (ns := ns) (k := k) (by simpa using c)
      refine ⟨_, rfl, _, rfl, _, _, _, _, rfl, rfl, s1.seq hS, hz, .inl ⟨_, rfl, ?_⟩⟩
      exact fin z _ m v s1
    · refine ⟨_, rfl, ?_⟩
      exact fin m _ m v s1
theorem ok_draw {f : Addr} {fd : FuncData} (F : Fun K "_law_draw" "_law_draw" s__law_draw f fd) (T : Txt K mg) : FG P w K mg base CX0 1 f fd ["purse", "many"] spDraw := by
  refine fun_okG F sc__law_draw (fun vs H Q E h => ?_) (fun cdv A outer s H vs Q E gd hr h => ?_)
  · obtain ⟨_, _, rfl, _⟩ := h
    rfl
  have nd := sc__law_draw.nd
  obtain ⟨p, m, rfl, ⟨a, b, c, hp, h0, h1, h2⟩, hm, hm2, q⟩ := h
  -- purse 0, many 1, mixed 2, digit 3
  refine ⟨_, (pss_cons (ps_asg (pe_op op_add (pe_ixL K (pv 0) pe_int) pe_int) (pg_sub (pv 0) pe_int set_list))
      (pss_cons (ps_set (i := 2) nd rfl (Or.inl rfl) (pe_op op_mod (pe_op op_add (pe_op op_add (pe_op op_mul (pe_callTy call_int1 (by rfl) T.b_int (by decide +kernel) (pa_cons (pe_ixL K (pv 0) pe_int) pa_nil)) pe_int) (pe_op op_mul pe_int (pe_ixL K (pv 0) pe_int))) pe_int) pe_int))
      (pss_cons (ps_asg (pe_op op_mod (pe_op op_add (pe_op op_add (pe_op op_mul (pv 2) (pv 2)) (pv 2)) pe_int) pe_int) (pg_sub (pv 0) pe_int set_list))
      (pss_cons (ps_if (pt_cmpR op_gt (pe_ixL K (pv 0) pe_int) pe_int (nomark _))
        (pss_cons (ps_asg (pe_callB call_divmod (by rfl) T.b_divmod (by decide +kernel) (pa_cons (pe_ixL K (pv 0) pe_int) (pa_cons (pv 1) pa_nil))) (pg_tup (by rfl) (pgs_cons (pg_sub (pv 0) pe_int set_list) (pgs_cons (pg_name (i := 3) nd rfl (Or.inl rfl)) pgs_nil))))
          (pss_one (ps_ret (pv 3))))
        pss_nil)
      (pss_one (ps_ret (pe_op op_mod (pe_op op_fdiv (pe_callTy call_int1 (by rfl) T.b_int (by decide +kernel) (pa_cons (pe_ixL K (pv 0) pe_int) pa_nil)) pe_int) (pv 1)))))))), ?_⟩
  have b1 : But p H H := But.refl _ _
  have upds : ∀ {H1 : Hp} {o u : HO}, L2.upd (L2.upd H1 p o) p u = L2.upd H1 p u := fun {H1 o u} => upd_upd
  -- purse[2] = purse[2] + 1
  refine ⟨_, rfl, _, _, _, _, rfl, rfl, SqL.of hp, rfl, _, _, rfl, rfl, _, rfl, _, _, _, _, rfl, rfl, hp, rfl, ?_⟩
  have e1 : (L2.upd H p (.lst ([V.int a, V.int b, V.int c].set 2 (V.int (c + 1))))) p = some (.lst [.int a, .int b, .int (c + 1)]) := upd_same
  -- mixed
  refine ⟨_, rfl, _, _, _, _, rfl, rfl, SqL.of e1, rfl, .inl ⟨_, rfl, _, _, rfl, rfl, .inl ⟨by omega, by omega⟩, ?_⟩⟩
  refine ⟨_, rfl, _, _, _, _, rfl, rfl, SqL.of e1, rfl, _, _, rfl, rfl, .inl ⟨by decide, by decide⟩, _, _, rfl, rfl, _, _, rfl, rfl, _, _, rfl, rfl, (by show (0 : Int) < _; decide), ?_⟩
  dsimp only
  generalize hx : (a * 48271 + 2654435 * (c + 1) + 17) % 2147483629 = x
  have x0 : 0 ≤ x := by rw [← hx]; exact Int.emod_nonneg _ (by decide)
  have x1 : x < 2147483629 := by rw [← hx]; exact Int.emod_lt_of_pos _ (by decide)
  -- purse[0]
  refine ⟨_, rfl, _, rfl, _, _, rfl, rfl, .inl ⟨by omega, by omega⟩, _, rfl, _, _, rfl, rfl, _, _, rfl, rfl, _, _, rfl, rfl, (by show (0 : Int) < _; decide), ?_⟩
  dsimp only
  generalize hy : (x * x + x + 40503) % 2147483587 = y
  have y0 : 0 ≤ y := by rw [← hy]; exact Int.emod_nonneg _ (by decide)
  have y1 : y < 2147483587 := by rw [← hy]; exact Int.emod_lt_of_pos _ (by decide)
  refine ⟨_, rfl, _, _, _, _, rfl, rfl, e1, rfl, ?_⟩
  rw [upds]
  have e2 : (L2.upd H p (.lst [V.int y, V.int b, V.int (c + 1)])) p = some (.lst [.int y, .int b, .int (c + 1)]) := upd_same
  -- if purse[1] > 0
  refine ⟨_, rfl, _, _, _, _, rfl, rfl, SqL.of e2, rfl, _, _, rfl, rfl, _, rfl, ?_⟩
  refine ite2 (fun d => ?_) (fun d => ?_)
  · -- purse[1], digit = divmod(purse[1], many)
    refine ⟨_, rfl, _, _, _, _, rfl, rfl, SqL.of e2, rfl, _, rfl, _, _, rfl, ⟨hm, hm2⟩, fun t ht => ?_⟩
    have np : p ≠ t := ne_of_none e2 ht
    refine ⟨_, _, rfl, SqT.of upd_same, rfl, _, _, rfl, ?_⟩
    refine ⟨_, rfl, _, _, _, _, rfl, rfl, (by rw [upd_ne np]; exact e2), rfl, ?_⟩
    refine ⟨_, _, rfl, rfl, ?_⟩
    refine ⟨_, rfl, ?_⟩
    refine q (b % m) _ (Int.emod_nonneg _ (by omega)) (Int.emod_lt_of_pos _ hm) ⟨y, b / m, c + 1, upd_same, y0, by omega, Int.ediv_nonneg h2 (by omega)⟩ ?_
    intro u o n e
    have e' : (L2.upd H p (.lst [V.int y, V.int b, V.int (c + 1)])) u = some o := by rw [upd_ne n]; exact e
    rw [upd_ne n, upd_ne (ne_of_none e' ht)]
    exact e'
  · refine ⟨_, rfl, _, _, _, _, rfl, rfl, SqL.of e2, rfl, .inl ⟨_, rfl, _, _, rfl, rfl, ⟨by decide, by decide⟩, _, rfl, _, _, rfl, rfl, hm, ?_⟩⟩
    exact q _ _ (Int.emod_nonneg _ (by omega)) (Int.emod_lt_of_pos _ hm) ⟨y, b, c + 1, upd_same, y0, by omega, h2⟩ (But.upd b1)
end
end Lk
set_option Elab.async false
set_option linter.all false
namespace Lk
open PySem PySem.Spec PyProof.Rows L2 G TL
/-! ### words -/
/-- small letters alone -/
def Low (z : Str) : Prop := ∀ c ∈ z.cps.toList, 97 ≤ c ∧ c ≤ 122
structure Wd (z : Str) : Prop where
  low : Low z
  pos : 1 ≤ z.length
  len : z.length ≤ 8
theorem pick {α : Type} {xs : List α} {d : Int} (h0 : 0 ≤ d) (h1 : d < xs.length) : ∃ v, atI xs d = some v ∧ v ∈ xs := by
  obtain ⟨n, rfl⟩ := Int.eq_ofNat_of_zero_le h0
  have h : n < xs.length := by omega
  exact ⟨xs[n], atI_nat (List.getElem?_eq_getElem h), List.getElem_mem h⟩
theorem pickS {z : Str} {d : Int} (h0 : 0 ≤ d) (h1 : d < z.length) : ∃ c, atI z.cps.toList d = some c ∧ c ∈ z.cps.toList := pick h0 (by simpa [Str.length] using h1)
theorem tyes {σ : L2.St} {H : Hp} {A B : Hp → Prop} (h : A H) : tYes σ H (fun b H3 => if b = true then A H3 else B H3) := iteT (B := B H) h
def sgl (c : Nat) : Str := ⟨#[c]⟩
theorem joinL_nil : ∀ l : List (List Nat), joinL [] l = l.flatten
  | [] => rfl
  | [p] => by simp [joinL]
  | p :: q :: r => by
    show p ++ ([] ++ joinL [] (q :: r)) = _
    rw [joinL_nil (q :: r)]
    simp
theorem join_sgl (cs : List Nat) : (Txt.join Str.empty (cs.map sgl)).cps.toList = cs := by
  rw [join_eq]
  show tl (Str.join Str.empty (cs.map sgl)) = cs
  rw [tl_join]
  show joinL [] _ = cs
  rw [joinL_nil]
  induction cs with
  | nil => rfl
  | cons c r ih =>
    show [c] ++ _ = _
    rw [ih]
    rfl
theorem sum_sgl : ∀ cs : List Nat, ((cs.map sgl).map (·.length)).sum = cs.length
  | [] => rfl
  | c :: r => by
    show (sgl c).length + _ = _
    have := sum_sgl r
    show 1 + ((r.map sgl).map (·.length)).sum = _
    rw [this, List.length_cons]
    omega
def spSigns : Sp := fun vs H Q _ => ∃ p : Addr, vs = [.ref p] ∧ Pur H p ∧ ∀ z H', Wd z → Pur H' p → But p H H' → Q (.str z) H'
section
variable {P : Program} {w : World} {K : PySem.W.Frag} {mg : Str → Option Value} {base : Heap}
theorem ok_signs {f : Addr} {fd : FuncData} (F : Fun K "_law_signs" "_law_signs" s__law_signs f fd) (T : Txt K mg) (c__law_draw : Cal P w K mg base "_law_draw" 1 ["purse", "many"] spDraw) : FG P w K mg base CX0 2 f fd ["purse"] spSigns := by
  refine fun_okG F sc__law_signs (fun vs H Q E h => ?_) (fun cdv A outer s H vs Q E gd hr h => ?_)
  · obtain ⟨_, rfl, _⟩ := h
    rfl
  have nd := sc__law_signs.nd
  obtain ⟨p, rfl, hp, q⟩ := h
  -- purse 0c, some 1c, size 2, k 3
  refine ⟨_, (pss_cons (ps_set (i := 1) nd rfl (Or.inr rfl) (pe_ixL K (pe_lst (pa_cons pe_str (pa_cons pe_str (pa_cons pe_str pa_nil)))) (pe_cg c__law_draw gd (hr.mono (by decide)) (by rfl) (pa_cons (pv 0) (pa_cons pe_int pa_nil)))))
      (pss_cons (ps_set (i := 2) nd rfl (Or.inl rfl) (pe_ixL K (pe_lst (pa_cons pe_int (pa_cons pe_int (pa_cons pe_int (pa_cons pe_int (pa_cons pe_int (pa_cons pe_int pa_nil))))))) (pe_cg c__law_draw gd (hr.mono (by decide)) (by rfl) (pa_cons (pv 0) (pa_cons pe_int pa_nil)))))
      (pss_one (ps_ret (pe_join pe_str (pe_lc (own := [("k", 3)]) (g := gName 3) (by rfl) nd (pi_range1 (by rfl) T.b_range (pa_cons (pv 2) pa_nil)) (blkOk_by (own := [("k", 3)]) (N := ["purse", "some", "size", "k"]) (sc := defScope s__law_signs) (by decide +kernel)) (fun _ _ _ _ _ => pg_name (i := 3) nd rfl (Or.inl rfl)) (fun _ _ _ _ _ => pts_nil) (fun _ _ _ _ _ => (pe_ix ix_str (pv 1) (pe_cg c__law_draw gd (hr.mono (by decide)) (by rfl) (pa_cons (pv 0) (pa_cons (pe_callB call_len_str (by rfl) T.b_len (by decide +kernel) (pa_cons (pv 1) pa_nil)) pa_nil))) (fun _ _ => rfl))))))))), ?_⟩
  refine ⟨lz (by simp), fun l hl => ?_⟩
  have np : ∀ {H1 : Hp} {a : Addr}, Pur H1 p → H1 a = none → a ≠ p := fun {H1 a} h hn e => by
    obtain ⟨_, _, _, e1, _⟩ := h
    rw [e, e1] at hn
    cases hn
  refine ⟨_, rfl, p, 3, rfl, hp.new hl, by decide, by decide, fun d H1 d0 d1 hp1 b1 => ?_⟩
  have l1 : H1 l = some _ := b1 l _ (np hp hl) upd_same
  obtain ⟨v, hv, hm⟩ := pick (xs := [V.str (Str.ofString "abcdefghijklmnopqrstuvwxyz"), .str (Str.ofString "ab"), .str (Str.ofString "steplodink")]) d0 d1
  refine ⟨_, _, _, _, rfl, rfl, SqL.of l1, hv, ?_⟩
  obtain ⟨al, rfl, al0, al1, al2⟩ : ∃ al : Str, v = .str al ∧ Low al ∧ 1 ≤ al.length ∧ al.length ≤ 26 := by
    rcases List.mem_cons.mp hm with rfl | hm
    · exact ⟨_, rfl, by unfold Low; decide +kernel, by decide +kernel, by decide +kernel⟩
    rcases List.mem_cons.mp hm with rfl | hm
    · exact ⟨_, rfl, by unfold Low; decide +kernel, by decide +kernel, by decide +kernel⟩
    rcases List.mem_cons.mp hm with rfl | hm
    · exact ⟨_, rfl, by unfold Low; decide +kernel, by decide +kernel, by decide +kernel⟩
    · cases hm
  -- size
  refine ⟨lz (by simp), fun l2 hl2 => ?_⟩
  refine ⟨_, rfl, p, 6, rfl, hp1.new hl2, by decide, by decide, fun d2 H2 e0 e1 hp2 b2 => ?_⟩
  have l3 : H2 l2 = some _ := b2 l2 _ (np hp1 hl2) upd_same
  have b3 : But p H H2 := ((But.new (But.refl p H) hl).trans b1).trans ((But.new (But.refl p H1) hl2).trans b2)
  obtain ⟨v2, hv2, hm2⟩ := pick (xs := [V.int 1, .int 2, .int 1, .int 3, .int 8, .int 5]) e0 e1
  refine ⟨_, _, _, _, rfl, rfl, SqL.of l3, hv2, ?_⟩
  obtain ⟨n, rfl, n0, n1⟩ : ∃ n : Nat, v2 = .int n ∧ 1 ≤ n ∧ n ≤ 8 := by
    simp only [List.mem_cons, List.not_mem_nil, or_false] at hm2
    rcases hm2 with rfl | rfl | rfl | rfl | rfl | rfl
    · exact ⟨1, rfl, by decide, by decide⟩
    · exact ⟨2, rfl, by decide, by decide⟩
    · exact ⟨1, rfl, by decide, by decide⟩
    · exact ⟨3, rfl, by decide, by decide⟩
    · exact ⟨8, rfl, by decide, by decide⟩
    · exact ⟨5, rfl, by decide, by decide⟩
  -- ''.join([..])
  refine ⟨⟨_, rfl⟩, ?_⟩
  refine ⟨_, rfl, (n : Int), rfl, by omega, by omega, fun D hD => ?_⟩
  have nD : ∀ {H3 : Hp}, Pur H3 p → D ≠ p := fun {H3} h e => by
    obtain ⟨_, _, _, e1, _⟩ := hp2
    rw [e, e1] at hD
    cases hD
  refine lc_range (lo := 0) (n := ((n : Int)).toNat) (fun i H3 => ∃ cs : List Nat, H3 D = some (.lst ((cs.map sgl).map V.str)) ∧ cs.length = i ∧ (∀ c ∈ cs, 97 ≤ c ∧ c ≤ 122) ∧ Pur H3 p ∧ But p H2 H3)
    ⟨[], upd_same, rfl, (by simp), hp2.new hD, But.new (But.refl p H2) hD⟩ ?_ ?_
  · rintro i H3 hi ⟨cs, c1, c2, c3, hp3, b4⟩
    refine ⟨rfl, ?_⟩
    refine tyes ?_
    refine ⟨_, rfl, _, rfl, _, rfl, _, rfl, lz (by omega), p, _, rfl, hp3, by omega, by omega, fun d3 H4 f0 f1 hp4 b5 => ?_⟩
    obtain ⟨c, hc, mc⟩ := pickS f0 f1
    refine ⟨_, _, _, rfl, rfl, lz (by omega), hc, _, b5 D _ (nD hp3) c1, ?_, cs ++ [c], ?_, by simp [c2], ?_, ?_, ?_⟩
    · rw [List.length_map, List.length_map, c2]
      exact Nat.lt_of_lt_of_le hi (lz (by omega))
    · show L2.upd H4 D (.lst ((cs.map sgl).map V.str ++ [V.str (sgl c)])) D = _
      rw [upd_same, List.map_append, List.map_append]
      rfl
    · intro y hy
      rcases List.mem_append.mp hy with hy | hy
      · exact c3 y hy
      · obtain rfl : y = c := by simpa using hy
        exact al0 y mc
    · obtain ⟨a1, a2, a3, e, r⟩ := hp4
      exact ⟨a1, a2, a3, by rw [upd_ne (Ne.symm (nD hp3))]; exact e, r⟩
    · intro u o nu e
      have e1 := b5 u o nu (b4 u o nu e)
      rw [upd_ne (ne_of_none e hD)]
      exact e1
  · rintro H3 ⟨cs, c1, c2, c3, hp3, b4⟩
    refine ⟨_, _, _, rfl, rfl, .inl (SqL.of c1), ?_, ?_⟩
    · rw [sum_sgl, List.length_map]
      show _ + _ * 0 ≤ _
      omega
    · refine q _ H3 ?_ hp3 (b3.trans b4)
      have ej := join_sgl cs
      have ln : (Txt.join Str.empty (cs.map sgl)).length = n := by
        show (Txt.join Str.empty (cs.map sgl)).cps.size = n
        rw [← Array.length_toList, ej, c2]
        omega
      exact ⟨fun c hc => c3 c (by rw [← ej]; exact hc), by rw [← ln] at n0; exact n0, by rw [← ln] at n1; exact n1⟩
end
end Lk
set_option Elab.async false
set_option linter.all false
namespace Lk
open PySem PySem.Spec PyProof.Rows L2 G TL
theorem flats (l : List Str) : (l.map V.str).all flatV = true := by
  rw [List.all_eq_true]
  intro x hx
  obtain ⟨z, _, rfl⟩ := List.mem_map.mp hx
  rfl
theorem cat_map (a b : List Str) : a.map V.str ++ b.map V.str = (a ++ b).map V.str := List.map_append.symm
theorem nep {H1 : Hp} {a p : Addr} (h : Pur H1 p) (hn : H1 a = none) : a ≠ p := fun e => by
  obtain ⟨_, _, _, e1, _⟩ := h
  rw [e, e1] at hn
  cases hn
def barL : List Str := [Str.ofString "in", Str.ofString "out", Str.ofString "load", Str.ofString "store", Str.ofString "take", Str.ofString "step", Str.ofString "if", Str.ofString "else", Str.ofString "while", Str.ofString "end"]
theorem wd_more {z : Str} {c d : Nat} (h : Wd z) (hc : 97 ≤ c ∧ c ≤ 122) (hd : 97 ≤ d ∧ d ≤ 122) : Wd (cutS z none (some 6) ++ ⟨#[c]⟩ ++ ⟨#[d]⟩) ∧ (cutS z none (some 6)).length ≤ 6 := by
  have e : (cutS z none (some 6)).cps.toList = z.cps.toList.take (HT.sIx z.length z.length (some 6)) := by
    unfold cutS
    rw [HT.sIx_none, List.drop_zero, Nat.sub_zero]
  have n6 : HT.sIx z.length z.length (some 6) ≤ 6 := by
    have q := HT.sIx_nat z.length z.length 6
    have : HT.sIx z.length z.length (some 6) = min 6 z.length := q
    omega
  have ln : (cutS z none (some 6)).length ≤ 6 := by
    show (cutS z none (some 6)).cps.size ≤ 6
    rw [← Array.length_toList, e, List.length_take]
    omega
  have tl2 : (cutS z none (some 6) ++ (⟨#[c]⟩ : Str) ++ (⟨#[d]⟩ : Str)).cps.toList = z.cps.toList.take (HT.sIx z.length z.length (some 6)) ++ [c] ++ [d] := by
    show ((cutS z none (some 6)).cps ++ #[c] ++ #[d]).toList = _
    rw [Array.toList_append, Array.toList_append, e]
  have lz2 : (cutS z none (some 6) ++ (⟨#[c]⟩ : Str) ++ (⟨#[d]⟩ : Str)).length = (cutS z none (some 6)).length + 2 := by
    show ((cutS z none (some 6)).cps ++ #[c] ++ #[d]).size = _
    rw [Array.size_append, Array.size_append]
    rfl
  refine ⟨⟨fun x hx => ?_, by rw [lz2]; omega, by rw [lz2]; omega⟩, ln⟩
  rw [tl2] at hx
  rcases List.mem_append.mp hx with hx | hx
  · rcases List.mem_append.mp hx with hx | hx
    · exact h.low x (List.mem_of_mem_take hx)
    · obtain rfl : x = c := by simpa using hx
      exact hc
  · obtain rfl : x = d := by simpa using hx
    exact hd
def spNames : Sp := fun vs H Q _ => ∃ (p u : Addr) (m : Nat) (us : List Str), vs = [.ref p, .int m, .ref u] ∧ Pur H p ∧ H u = some (.lst (us.map V.str)) ∧ us.length ≤ 1000 ∧ m ≤ 1000 ∧
  ∀ l (ws : List Str) H', ws.length = m → (∀ z ∈ ws, Wd z) → Pur H' p → But p H H' → H l = none → H' l = some (.lst (ws.map V.str)) → Q (.ref l) H'
section
variable {P : Program} {w : World} {K : PySem.W.Frag} {mg : Str → Option Value} {base : Heap}
theorem ok_names {f : Addr} {fd : FuncData} (F : Fun K "_law_names" "_law_names" s__law_names f fd) (T : Txt K mg) (c__law_signs : Cal P w K mg base "_law_signs" 2 ["purse"] spSigns) : FG P w K mg base CX0 3 f fd ["purse", "many", "used"] spNames := by
  refine fun_okG F sc__law_names (fun vs H Q E h => ?_) (fun cdv A outer s H vs Q E gd hr h => ?_)
  · obtain ⟨_, _, _, _, rfl, _⟩ := h
    rfl
  have nd := sc__law_names.nd
  obtain ⟨p, u, m, us, rfl, hp, hu, lu, lm, q⟩ := h
  -- purse 0, many 1, used 2, barred 3, found 4, k 5, stem 6, fresh 7, j 8
  refine ⟨_, (pss_cons (ps_set (i := 3) nd rfl (Or.inl rfl) (pe_lst (pa_cons pe_str (pa_cons pe_str (pa_cons pe_str (pa_cons pe_str (pa_cons pe_str (pa_cons pe_str (pa_cons pe_str (pa_cons pe_str (pa_cons pe_str (pa_cons pe_str pa_nil))))))))))))
      (pss_cons (ps_set (i := 4) nd rfl (Or.inl rfl) (pe_lst pa_nil))
      (pss_cons (ps_for PassesOwn.never rfl (pi_range1 (by rfl) T.b_range (pa_cons (pv 1) pa_nil)) (pg_name (i := 5) nd rfl (Or.inl rfl))
        (pss_cons (ps_set (i := 6) nd rfl (Or.inl rfl) (pe_cg c__law_signs gd (hr.mono (by decide)) (by rfl) (pa_cons (pv 0) pa_nil)))
          (pss_cons (ps_set (i := 7) nd rfl (Or.inl rfl) (pv 6))
          (pss_cons (ps_for PassesOwn.never rfl (pi_range1 (by rfl) T.b_range (pa_cons pe_int pa_nil)) (pg_name (i := 8) nd rfl (Or.inl rfl))
            (pss_cons (ps_if (pt_cmpR op_notIn_seq (pv 7) (pe_op op_cat (pe_op op_cat (pv 2) (pv 4)) (pv 3)) (by rfl))
                (pss_one ps_break)
                pss_nil)
              (pss_one (ps_set (i := 7) nd rfl (Or.inl rfl) (pe_op op_add_str (pe_op op_add_str (pe_slice sl_str (pv 6) po_none (po_some pe_int)) (pe_ix ix_str pe_str (pe_op op_fdiv (pv 8) pe_int) (fun _ _ => rfl))) (pe_ix ix_str pe_str (pe_op op_mod (pv 8) pe_int) (fun _ _ => rfl)))))))
          (pss_one (ps_expr (pe_bm PySem.F.plainAttrs_list PySem.F.slot_list_append PySem.F.type_list_append mt_append (pv 4) (pa_cons (pv 7) pa_nil))))))))
      (pss_one (ps_ret (pv 4)))))), ?_⟩
  refine ⟨lz (by simp), fun bl hb => ⟨by show 0 ≤ sizeLine; decide, fun fl hf => ?_⟩⟩
  have hbl : (L2.upd (L2.upd H bl (.lst (barL.map V.str))) fl (.lst [])) bl = some (.lst (barL.map V.str)) := by
    rw [upd_ne (ne_of_none upd_same hf)]
    exact upd_same
  have hfH : H fl = none := by
    cases e : H fl with
    | none => rfl
    | some o =>
      rw [upd_ne (ne_of_none e hb), e] at hf
      cases hf
  have fnb : fl ≠ bl := Ne.symm (ne_of_none upd_same hf)
  refine ⟨_, rfl, (m : Int), rfl, by omega, by omega, for_range (lo := 0) (n := ((m : Int)).toNat) (fun i σ H2 => ∃ (ws : List Str) (x y z t : Option V), σ = [some (.ref p), some (.int m), some (.ref u), some (.ref bl), some (.ref fl), x, y, z, t] ∧
      ws.length = i ∧ (∀ w ∈ ws, Wd w) ∧ H2 fl = some (.lst (ws.map V.str)) ∧ H2 bl = some (.lst (barL.map V.str)) ∧ Pur H2 p ∧ But p H H2)
    ⟨[], none, none, none, none, rfl, rfl, (by simp), upd_same, hbl, (hp.new hb).new hf, (But.new (But.new (But.refl p H) hb) hf)⟩ ?_ ?_⟩
  · rintro i σ H2 hi ⟨ws, x, y, z, t, rfl, wl, ww, w1, w2, hp2, b2⟩
    refine ⟨_, rfl, p, rfl, hp2, fun st H3 hst hp3 b3 => ?_⟩
    have ne1 : ∀ {H4 : Hp} {a : Addr} {l : List Str}, Pur H4 p → H4 a = some (.lst (l.map V.str)) → a ≠ p := by
      rintro H4 a l ⟨x1, x2, x3, e1, _⟩ e2 rfl
      rw [e1] at e2
      injection e2 with e2
      injection e2 with e2
      cases l with
      | nil => cases e2
      | cons z r => injection e2 with e2; cases e2
    have f1 : H3 fl = some (.lst (ws.map V.str)) := b3 fl _ (ne1 hp2 w1) w1
    have f2 : H3 bl = some (.lst (barL.map V.str)) := b3 bl _ (ne1 hp2 w2) w2
    have f3 : H3 u = some (.lst (us.map V.str)) := b3 u _ (ne1 hp hu) (b2 u _ (ne1 hp hu) hu)
    have le : ws.length ≤ 1000 := by omega
    have inv : ∀ (fr : Str) (H5 : Hp), Wd fr → Same H3 H5 → (ws ++ [fr]).length = i + 1 ∧ (∀ w ∈ ws ++ [fr], Wd w) ∧ (L2.upd H5 fl (.lst (ws.map V.str ++ [V.str fr]))) fl = some (.lst ((ws ++ [fr]).map V.str)) ∧
        (L2.upd H5 fl (.lst (ws.map V.str ++ [V.str fr]))) bl = some (.lst (barL.map V.str)) ∧ Pur (L2.upd H5 fl (.lst (ws.map V.str ++ [V.str fr]))) p ∧ But p H (L2.upd H5 fl (.lst (ws.map V.str ++ [V.str fr]))) := by
      intro fr H5 hfr s5
      refine ⟨by rw [List.length_append, wl]; rfl, fun x hx => ?_, ?_, ?_, ?_, ?_⟩
      · rcases List.mem_append.mp hx with hx | hx
        · exact ww x hx
        · obtain rfl : x = fr := by simpa using hx
          exact hfr
      · rw [upd_same, List.map_append]
        rfl
      · rw [upd_ne (Ne.symm fnb)]
        exact s5 _ _ f2
      · obtain ⟨x1, x2, x3, e, r⟩ := hp3.mono s5
        exact ⟨x1, x2, x3, by rw [upd_ne (Ne.symm (ne1 hp3 f1))]; exact e, r⟩
      · intro c o n e
        rw [upd_ne (ne_of_none e hfH)]
        exact s5 _ _ (b3 c o n (b2 c o n e))
    -- fresh = stem
    refine ⟨_, rfl, ?_⟩
    -- for j in range(100)
    refine ⟨100, rfl, by decide, by decide, for_range (lo := 0) (n := 100) (fun j σ H4 => ∃ (fr : Str) (t : Option V), σ = [some (.ref p), some (.int m), some (.ref u), some (.ref bl), some (.ref fl), some (.int (0 + (i : Int))), some (.str st), some (.str fr), t] ∧ Wd fr ∧ Same H3 H4)
      ⟨st, t, rfl, hst, Same.refl _⟩ ?_ ?_⟩
    · rintro j σ H4 hj ⟨fr, t, rfl, hfr, s4⟩
      refine ⟨_, rfl, ⟨_, rfl, _, rfl, _, _, _, _, rfl, rfl, s4 _ _ f3, s4 _ _ f1, ?_, fun c1 hc1 => ?_⟩⟩
      · rw [List.length_map, List.length_map]
        exact Nat.le_trans (show us.length + ws.length ≤ 2000 by omega) (by decide)
      have s5 := fun o => Same.new (o := o) s4 hc1
      refine ⟨_, rfl, _, _, _, _, rfl, rfl, upd_same, s5 _ _ _ f2, ?_, fun c2 hc2 => ?_⟩
      · rw [List.length_append, List.length_map, List.length_map, List.length_map]
        exact Nat.le_trans (show us.length + ws.length + barL.length ≤ 2010 by have : barL.length = 10 := rfl; omega) (by decide)
      have s6 := fun o' => Same.new (o := o') (s5 _) hc2
      refine ⟨_, _, rfl, .inl (SqL.of upd_same), rfl, ?_, _, rfl, ?_⟩
      · rw [cat_map, cat_map]
        exact flats _
      refine ite2 (fun c => ?_) (fun c => ?_)
      · -- break: found.append(fresh)
        exact ⟨_, rfl, .inl ⟨rfl, _, SqL.of ((s6 _) _ _ f1)⟩, _, rfl, fl, _, _, rfl, rfl, (s6 _) _ _ f1, (by rw [List.length_map]; exact Nat.lt_of_le_of_lt le (by decide)), ws ++ [fr], _, _, _, _, rfl, inv fr _ hfr (s6 _)⟩
      · obtain ⟨x1, g1, m1⟩ := pickS (z := Str.ofString "abcdefghij") (d := (0 + (j : Int)) / 10) (by omega) (by show _ < (10 : Int); omega)
        obtain ⟨x2, g2, m2⟩ := pickS (z := Str.ofString "klmnopqrst") (d := (0 + (j : Int)) % 10) (by omega) (by show _ < (10 : Int); omega)
        have r1 : 97 ≤ x1 ∧ x1 ≤ 122 := (show ∀ c ∈ (Str.ofString "abcdefghij").cps.toList, 97 ≤ c ∧ c ≤ 122 by decide +kernel) x1 m1
        have r2 : 97 ≤ x2 ∧ x2 ≤ 122 := (show ∀ c ∈ (Str.ofString "klmnopqrst").cps.toList, 97 ≤ c ∧ c ≤ 122 by decide +kernel) x2 m2
        obtain ⟨wd, l6⟩ := wd_more hst r1 r2
        refine ⟨_, rfl, _, rfl, _, rfl, lz (Nat.le_trans hst.len (by decide)), ?_⟩
        refine ⟨_, rfl, _, _, rfl, rfl, ⟨by decide, by decide⟩, _, _, _, rfl, rfl, (by decide +kernel), g1, _, _, rfl, rfl, ?_, ?_⟩
        · exact Nat.le_trans (Nat.add_le_add_right l6 1) (by decide)
        refine ⟨_, rfl, _, _, rfl, rfl, (by show (0 : Int) < _; decide), _, _, _, rfl, rfl, (by decide +kernel), g2, _, _, rfl, rfl, ?_, ?_⟩
        · refine Nat.le_trans (show _ ≤ 6 + 1 + 1 from ?_) (by decide)
          have : (cutS st none (some 6) ++ (⟨#[x1]⟩ : Str)).length = (cutS st none (some 6)).length + 1 := by
            show ((cutS st none (some 6)).cps ++ #[x1]).size = _
            rw [Array.size_append]
            rfl
          show (cutS st none (some 6) ++ (⟨#[x1]⟩ : Str)).length + 1 ≤ _
          omega
        exact ⟨_, _, rfl, wd, s6 _⟩
    · rintro σ H4 ⟨fr, t, rfl, hfr, s4⟩
      exact ⟨_, rfl, .inl ⟨rfl, _, SqL.of (s4 _ _ f1)⟩, _, rfl, fl, _, _, rfl, rfl, s4 _ _ f1, (by rw [List.length_map]; exact Nat.lt_of_le_of_lt le (by decide)), ws ++ [fr], _, _, _, _, rfl, inv fr _ hfr s4⟩
  · rintro σ H2 ⟨ws, x, y, z, t, rfl, wl, ww, w1, w2, hp2, b2⟩
    exact ⟨_, rfl, q fl ws H2 (by omega) ww hp2 b2 hfH w1⟩
end
end Lk
set_option Elab.async false
set_option linter.all false
namespace Lk
open PySem PySem.Spec PyProof.Rows L2 G TL
/-! ### the world Numbers -/
abbrev s_is_integer : Stmt := top 4
theorem sc_is_integer : FnScope ["value"] ["value"] (defScope s_is_integer) := ⟨rfl, rfl, rfl, by decide +kernel, rfl, by decide +kernel, by decide +kernel⟩
abbrev s_is_integer_within : Stmt := top 5
theorem sc_is_integer_within : FnScope ["value", "least", "most"] ["value", "least", "most"] (defScope s_is_integer_within) := ⟨rfl, rfl, rfl, by decide +kernel, rfl, by decide +kernel, by decide +kernel⟩
abbrev s_cell_text : Stmt := top 11
theorem sc_cell_text : FnScope ["array", "index"] ["array", "index"] (defScope s_cell_text) := ⟨rfl, rfl, rfl, by decide +kernel, rfl, by decide +kernel, by decide +kernel⟩
abbrev s_Numbers____init__ : Stmt := inClass (top 13) 0
theorem sc_Numbers____init__ : FnScope ["self", "modulus", "seed"] ["self", "modulus", "seed"] (defScope s_Numbers____init__) := ⟨rfl, rfl, rfl, by decide +kernel, rfl, by decide +kernel, by decide +kernel⟩
abbrev s_Numbers__modulus : Stmt := inClass (top 13) 1
theorem sc_Numbers__modulus : FnScope ["self"] ["self"] (defScope s_Numbers__modulus) := ⟨rfl, rfl, rfl, by decide +kernel, rfl, by decide +kernel, by decide +kernel⟩
abbrev s_Numbers__seed : Stmt := inClass (top 13) 2
theorem sc_Numbers__seed : FnScope ["self"] ["self"] (defScope s_Numbers__seed) := ⟨rfl, rfl, rfl, by decide +kernel, rfl, by decide +kernel, by decide +kernel⟩
abbrev s_Numbers___code : Stmt := inClass (top 13) 6
theorem sc_Numbers___code : FnScope ["self", "text", "number", "character"] ["self", "text"] (defScope s_Numbers___code) := ⟨rfl, rfl, rfl, by decide +kernel, rfl, by decide +kernel, by decide +kernel⟩
abbrev s_Numbers__known : Stmt := inClass (top 13) 3
theorem sc_Numbers__known : FnScope ["self", "name"] ["self", "name"] (defScope s_Numbers__known) := ⟨rfl, rfl, rfl, by decide +kernel, rfl, by decide +kernel, by decide +kernel⟩
abbrev s_Numbers__cell : Stmt := inClass (top 13) 4
theorem sc_Numbers__cell : FnScope ["self", "array", "index"] ["self", "array", "index"] (defScope s_Numbers__cell) := ⟨rfl, rfl, rfl, by decide +kernel, rfl, by decide +kernel, by decide +kernel⟩
abbrev s_Numbers__work : Stmt := inClass (top 13) 5
theorem sc_Numbers__work : FnScope ["self", "word", "arguments", "number", "argument", "mixed"] ["self", "word", "arguments"] (defScope s_Numbers__work) := ⟨rfl, rfl, rfl, by decide +kernel, rfl, by decide +kernel, by decide +kernel⟩
abbrev s_Numbers____eq__ : Stmt := inClass (top 13) 7
theorem sc_Numbers____eq__ : FnScope ["self", "other"] ["self", "other"] (defScope s_Numbers____eq__) := ⟨rfl, rfl, rfl, by decide +kernel, rfl, by decide +kernel, by decide +kernel⟩
abbrev s_Numbers____repr__ : Stmt := inClass (top 13) 8
theorem sc_Numbers____repr__ : FnScope ["self"] ["self"] (defScope s_Numbers____repr__) := ⟨rfl, rfl, rfl, by decide +kernel, rfl, by decide +kernel, by decide +kernel⟩
theorem pe_gi {X : Cx} {x : Str} {i : Int} {pos : Pos} (hg : Gl X x) (h : ∃ t, X.mg x = some (.int i t)) (hd : (x == ("__debug__" : Str)) = false := by decide) : PE X (.Name x pos) (tC (.int i)) := by
  obtain ⟨t, h⟩ := h
  exact pe_glob hg h ⟨t, rfl⟩ hd
/-- what the program's own modules leave: the constants, the class Numbers at CN -/
structure TxN (K : PySem.W.Frag) (mg : Str → Option Value) (CN : Addr) : Prop where
  b_isinstance : mg "isinstance" = none
  b_int : mg "int" = none
  b_bool : mg "bool" = none
  b_ord : mg "ord" = none
  g_LEAST_MODULUS : ∃ t, mg "LEAST_MODULUS" = some (.int 2 t)
  g_MOST_MODULUS : ∃ t, mg "MOST_MODULUS" = some (.int 1000000000 t)
  g_LEAST_SEED : ∃ t, mg "LEAST_SEED" = some (.int 0 t)
  g_MOST_SEED : ∃ t, mg "MOST_SEED" = some (.int 1000000000 t)
  g_Numbers : mg "Numbers" = some (.ref CN)
  cl_Numbers : Cls K CN
  aM : NoAttr K CN "_modulus"
  aS : NoAttr K CN "_seed"
/-- the fields of a Numbers -/
def nf (m s : Int) : List (Str × V) := putF "_seed" (.int s) (putF "_modulus" (.int m) [])
theorem ms_ne : ¬ (("_modulus" : Str) = "_seed") := by decide +kernel
theorem nf_eq (m s : Int) : nf m s = ([("_modulus", V.int m), ("_seed", V.int s)] : List (Str × V)) := by
  show (if ("_modulus" : Str) = "_seed" then [(("_modulus" : Str), V.int s)] else (("_modulus" : Str), V.int m) :: putF "_seed" (V.int s) []) = _
  rw [if_neg ms_ne]
  rfl
theorem nf_m (m s : Int) : (nf m s).lookup ("_modulus" : Str) = some (.int m) := by
  unfold nf
  rw [lookup_putF, if_neg ms_ne, lookup_putF, if_pos rfl]
theorem nf_s (m s : Int) : (nf m s).lookup ("_seed" : Str) = some (.int s) := by
  unfold nf
  rw [lookup_putF, if_pos rfl]
theorem nf_no (m s : Int) {x : Str} (h1 : ¬ x = "_seed") (h2 : ¬ x = "_modulus") : (nf m s).lookup x = none := by
  unfold nf
  rw [lookup_putF, if_neg h1, lookup_putF, if_neg h2]
  rfl
/-- a world Numbers(m, s) stands at a -/
def NumAt (CN : Addr) (H : Hp) (a : Addr) (m s : Int) : Prop := (∃ dx, H a = some (.ins CN dx (nf m s))) ∧ 2 ≤ m ∧ m ≤ 1000000000 ∧ 0 ≤ s ∧ s ≤ 1000000000
/-- the code of signs -/
def codeZ (m s : Int) (l : List Nat) : Int := l.foldl (fun (n : Int) (c : Nat) => (n * 131 + (c : Int)) % m) (s + 1)
theorem codeZ_more (m s : Int) (l : List Nat) (c : Nat) : codeZ m s (l ++ [c]) = (codeZ m s l * 131 + (c : Int)) % m := by
  unfold codeZ
  rw [List.foldl_append]
  rfl
theorem take_more {α : Type} {l : List α} {i : Nat} {x : α} (h : l[i]? = some x) : l.take (i + 1) = l.take i ++ [x] := by
  obtain ⟨hi, e⟩ := List.getElem?_eq_some_iff.mp h
  rw [← e, List.take_succ_eq_append_getElem hi]
theorem fold_le (m : Int) (hm : 2 ≤ m) : ∀ (l : List Nat) (n : Int), 0 ≤ n → n ≤ 1000000001 → m ≤ 1000000000 → 0 ≤ l.foldl (fun (n : Int) (c : Nat) => (n * 131 + (c : Int)) % m) n ∧ l.foldl (fun (n : Int) (c : Nat) => (n * 131 + (c : Int)) % m) n ≤ 1000000001
  | [], n, h0, h1, _ => ⟨h0, h1⟩
  | c :: r, n, h0, h1, h2 => by
    refine fold_le m hm r _ (Int.emod_nonneg _ (by omega)) ?_ h2
    have := Int.emod_lt_of_pos (n * 131 + (c : Int)) (show 0 < m by omega)
    show (n * 131 + (c : Int)) % m ≤ _
    omega
theorem codeZ_le {m s : Int} (hm : 2 ≤ m) (hm2 : m ≤ 1000000000) (h0 : 0 ≤ s) (h1 : s ≤ 1000000000) (l : List Nat) : 0 ≤ codeZ m s l ∧ codeZ m s l ≤ 1000000001 := fold_le m hm l (s + 1) (by omega) (by omega) hm2
/-- one argument -/
def mixZ (m s n a : Int) : Int := (n * (s + 7) + a * (n + 13) + a * a + 29) % m
def workZ (m s : Int) (w : List Nat) (as : List Int) : Int := as.foldl (mixZ m s) (codeZ m s w)
theorem workZ_more (m s : Int) (w : List Nat) (l : List Int) (a : Int) : workZ m s w (l ++ [a]) = mixZ m s (workZ m s w l) a := by
  unfold workZ
  rw [List.foldl_append]
  rfl
theorem workZ_le {m s : Int} (hm : 2 ≤ m) (hm2 : m ≤ 1000000000) (h0 : 0 ≤ s) (h1 : s ≤ 1000000000) (w : List Nat) (l : List Int) : 0 ≤ workZ m s w l ∧ workZ m s w l ≤ 1000000001 := by
  have key : ∀ (l : List Int) (n : Int), 0 ≤ n ∧ n ≤ 1000000001 → 0 ≤ l.foldl (mixZ m s) n ∧ l.foldl (mixZ m s) n ≤ 1000000001 := by
    intro l
    induction l with
    | nil => exact fun n h => h
    | cons a r ih =>
      intro n _
      refine ih _ ⟨Int.emod_nonneg _ (by omega), ?_⟩
      have := Int.emod_lt_of_pos (n * (s + 7) + a * (n + 13) + a * a + 29) (show 0 < m by omega)
      unfold mixZ
      omega
  exact key l _ (codeZ_le hm hm2 h0 h1 w)
/-- the writing of a cell -/
def cellT (a : Str) (i : Int) : Str := ((a ++ Str.ofString "[") ++ (Str.ofString (toString i))) ++ Str.ofString "]"
theorem emp_app (a : Str) : Str.empty ++ a = a := by
  show (⟨#[] ++ a.cps⟩ : Str) = a
  rw [Array.empty_append]
/-- a for over a text, by an invariant -/
theorem for_signs {x : Str} {g : TG} {tb : TS} {D : Ends} {σ : L2.St} {H : Hp} (Pv : Nat → L2.St → Hp → Prop) (h0 : Pv 0 σ H)
    (hs : ∀ i c σ H, x.cps.toList[i]? = some c → Pv i σ H → g (.str ⟨#[c]⟩) σ H fun σ2 H2 => tb { D with nx := Pv (i + 1), ct := Pv (i + 1), bk := D.nx } σ2 H2) (hd : ∀ σ H, Pv x.cps.toList.length σ H → D.nx σ H) :
    ∃ W : Nat → Nat → L2.St → Hp → Prop, (∃ m, W 0 m σ H) ∧ ∀ i m σ H, W i m σ H →
      ((Its x).stop i H ∧ D.nx σ H) ∨ ((Its x).go i H ∧ ∃ N : L2.St → Hp → Prop, (∀ σ' H', N σ' H' → ∃ m', m' < m ∧ W (i + 1) m' σ' H') ∧
        ∀ v H', (Its x).yld i H v H' → g v σ H' fun σ2 H2 => tb { D with nx := N, ct := N, bk := D.nx } σ2 H2) := by
  have sz : x.cps.toList.length = x.cps.size := Array.length_toList
  refine ⟨fun i m σ H => m = x.cps.size - i ∧ i ≤ x.cps.size ∧ Pv i σ H, ⟨_, rfl, Nat.zero_le _, h0⟩, ?_⟩
  rintro i m σ H ⟨rfl, hi, p⟩
  by_cases lt : i < x.cps.size
  · refine .inr ⟨lt, Pv (i + 1), fun σ' H' p' => ⟨_, by omega, rfl, lt, p'⟩, ?_⟩
    rintro v H' ⟨rfl, c, hc, rfl⟩
    exact hs i c σ _ (by rw [← Array.getElem?_toList] at hc; exact hc) p
  · have e : i = x.cps.size := by omega
    exact .inl ⟨Nat.le_of_not_lt lt, hd σ H (by rw [sz, ← e]; exact p)⟩
def spIsInt : Sp := fun vs H Q _ => ∃ i : Int, vs = [.int i] ∧ Q (.bl true) H
def spWithin : Sp := fun vs H Q _ => ∃ v l m : Int, vs = [.int v, .int l, .int m] ∧ Q (.bl (decide (l ≤ v ∧ v ≤ m))) H
def spCellText : Sp := fun vs H Q _ => ∃ (a : Str) (i : Int), vs = [.str a, .int i] ∧ a.length ≤ 1000 ∧ i.natAbs.log2 < 1920 ∧ Q (.str (cellT a i)) H
section
variable {P : Program} {w : World} {K : PySem.W.Frag} {mg : Str → Option Value} {base : Heap} {CN : Addr}
theorem ok_isint {f : Addr} {fd : FuncData} (F : Fun K "is_integer" "is_integer" s_is_integer f fd) (T : TxN K mg CN) : FG P w K mg base CX0 1 f fd ["value"] spIsInt := by
  refine fun_okG F sc_is_integer (fun vs H Q E h => ?_) (fun cdv A outer s H vs Q E gd hr h => ?_)
  · obtain ⟨_, rfl, _⟩ := h
    rfl
  obtain ⟨i, rfl, q⟩ := h
  -- value 0
  refine ⟨_, (pss_one (ps_ret (pe_and (pe_callB call_isi (by rfl) T.b_isinstance (by decide +kernel) (pa_cons (pv 0) (pa_cons (pe_bltn (v := .ty "int") (by rfl) T.b_int (by decide +kernel) rfl) pa_nil))) (pe_one (pe_not (pe_callB call_isi (by rfl) T.b_isinstance (by decide +kernel) (pa_cons (pv 0) (pa_cons (pe_bltn (v := .ty "bool") (by rfl) T.b_bool (by decide +kernel) rfl) pa_nil)))))))), ?_⟩
  refine ⟨_, rfl, _, _, _, _, true, rfl, .ty "int", .base (.int i), kit_ty (by decide +kernel), _, rfl, iteT ?_⟩
  exact ⟨_, rfl, _, _, _, _, false, rfl, .ty "bool", .base (.int i), kit_ty (by decide +kernel), _, rfl, q⟩
theorem ok_within {f : Addr} {fd : FuncData} (F : Fun K "is_integer_within" "is_integer_within" s_is_integer_within f fd) (T : TxN K mg CN) (c_is_integer : Cal P w K mg base "is_integer" 1 ["value"] spIsInt) : FG P w K mg base CX0 2 f fd ["value", "least", "most"] spWithin := by
  refine fun_okG F sc_is_integer_within (fun vs H Q E h => ?_) (fun cdv A outer s H vs Q E gd hr h => ?_)
  · obtain ⟨_, _, _, rfl, _⟩ := h
    rfl
  obtain ⟨v, l, m, rfl, q⟩ := h
  -- value 0, least 1, most 2
  refine ⟨_, (pss_one (ps_ret (pe_and (pe_cg c_is_integer gd (hr.mono (by decide)) (by rfl) (pa_cons (pv 0) pa_nil)) (pe_one (pe_chain op_le op_le (pv 1) (pv 0) (pv 2)))))), ?_⟩
  refine ⟨_, rfl, _, rfl, _, rfl, iteT ?_⟩
  refine ⟨_, rfl, _, rfl, _, _, rfl, rfl, _, rfl, ?_⟩
  refine ite2 (fun c => ?_) (fun c => ?_)
  · have c' : l ≤ v := by simpa using c
    refine ⟨_, rfl, _, _, rfl, rfl, ?_⟩
    have e : decide (l ≤ v ∧ v ≤ m) = decide (v ≤ m) := by simp [c']
    rw [e] at q
    exact q
  · have c' : ¬ l ≤ v := by simpa using c
    have e : decide (l ≤ v ∧ v ≤ m) = false := by simp [c']
    rw [e] at q
    exact q
theorem ok_celltext {f : Addr} {fd : FuncData} (F : Fun K "cell_text" "cell_text" s_cell_text f fd) : FG P w K mg base CX0 1 f fd ["array", "index"] spCellText := by
  refine fun_okG F sc_cell_text (fun vs H Q E h => ?_) (fun cdv A outer s H vs Q E gd hr h => ?_)
  · obtain ⟨_, _, rfl, _⟩ := h
    rfl
  obtain ⟨a, i, rfl, la, li, q⟩ := h
  -- array 0, index 1
  refine ⟨_, (pss_one (ps_ret (pe_joined (PJ.cons (pe_fmt (pv 0)) (PJ.cons pe_str (PJ.cons (pe_fmt (pv 1)) (PJ.cons pe_str PJ.nil))))))), ?_⟩
  refine ⟨_, rfl, .inl ⟨a, rfl, Nat.le_trans la (by decide), ?_⟩⟩
  have l1 : (Str.ofString (toString i)).length ≤ 1921 := int_text_len_1921 li
  have e0 : Str.empty ++ a = a := emp_app a
  have n1 : (Str.ofString "[").length = 1 := rfl
  have n2 : (Str.ofString "]").length = 1 := rfl
  refine ⟨a, rfl, by rw [e0]; exact Nat.le_trans la (by decide), ?_⟩
  rw [e0]
  refine ⟨_, rfl, by rw [strLen_append, n1]; exact Nat.le_trans (show _ ≤ 1001 by omega) (by decide), ?_⟩
  refine ⟨_, rfl, .inr ⟨i, rfl, li, ?_⟩⟩
  refine ⟨_, rfl, by rw [strLen_append, strLen_append, n1]; exact Nat.le_trans (show _ ≤ 3000 by omega) (by decide), ?_⟩
  refine ⟨_, rfl, by rw [strLen_append, strLen_append, strLen_append, n1, n2]; exact Nat.le_trans (show _ ≤ 3001 by omega) (by decide), ?_⟩
  exact q
/-! the class -/
def spInit (CN : Addr) : Sp := fun vs H Q _ => ∃ (p dx : Addr) (m s : Int), vs = [.ref p, .int m, .int s] ∧ H p = some (.ins CN dx []) ∧ 2 ≤ m ∧ m ≤ 1000000000 ∧ 0 ≤ s ∧ s ≤ 1000000000 ∧
  ∀ H', NumAt CN H' p m s → (∀ b o, b ≠ p → H b = some o → H' b = some o) → Q .non H'
theorem ok_init {f : Addr} {fd : FuncData} (F : Fun K "__init__" "Numbers.__init__" s_Numbers____init__ f fd) (T : TxN K mg CN) (c_is_integer_within : Cal P w K mg base "is_integer_within" 2 ["value", "least", "most"] spWithin) :
    FG P w K mg base CX0 3 f fd ["self", "modulus", "seed"] (spInit CN) := by
  refine fun_okG F sc_Numbers____init__ (fun vs H Q E h => ?_) (fun cdv A outer s H vs Q E gd hr h => ?_)
  · obtain ⟨_, _, _, _, rfl, _⟩ := h
    rfl
  obtain ⟨p, dx, m, s, rfl, hp, m0, m1, s0, s1, q⟩ := h
  -- self 0, modulus 1, seed 2
  refine ⟨_, (pss_cons (ps_if (pt_not (pt_val (pe_cg c_is_integer_within gd (hr.mono (by decide)) (by rfl) (pa_cons (pv 1) (pa_cons (pe_gi (by rfl) T.g_LEAST_MODULUS) (pa_cons (pe_gi (by rfl) T.g_MOST_MODULUS) pa_nil))))))
        (pss_one ps_never)
        pss_nil)
      (pss_cons (ps_if (pt_not (pt_val (pe_cg c_is_integer_within gd (hr.mono (by decide)) (by rfl) (pa_cons (pv 2) (pa_cons (pe_gi (by rfl) T.g_LEAST_SEED) (pa_cons (pe_gi (by rfl) T.g_MOST_SEED) pa_nil))))))
        (pss_one ps_never)
        pss_nil)
      (pss_cons (ps_fld (pv 0) (pv 1) rfl)
      (pss_one (ps_fld (pv 0) (pv 2) rfl))))), ?_⟩
  refine ⟨_, rfl, _, _, _, rfl, _, rfl, ?_⟩
  rw [decide_eq_true (show (2 : Int) ≤ m ∧ m ≤ 1000000000 from ⟨m0, m1⟩)]
  refine iteF ?_
  refine ⟨_, rfl, _, _, _, rfl, _, rfl, ?_⟩
  rw [decide_eq_true (show (0 : Int) ≤ s ∧ s ≤ 1000000000 from ⟨s0, s1⟩)]
  refine iteF ?_
  refine ⟨_, rfl, _, rfl, p, CN, dx, [], rfl, hp, T.cl_Numbers, T.aM, (by show 0 < 1000; decide), ?_⟩
  refine ⟨_, rfl, _, rfl, p, CN, dx, _, rfl, upd_same, T.cl_Numbers, T.aS, (by show 1 < 1000; decide), ?_⟩
  exact q _ ⟨⟨dx, upd_same⟩, m0, m1, s0, s1⟩ fun b o n e => by rw [upd_ne n, upd_ne n]; exact e
def spGetM (CN : Addr) : Sp := fun vs H Q _ => ∃ (a : Addr) (m s : Int), vs = [.ref a] ∧ NumAt CN H a m s ∧ Q (.int m) H
def spGetS (CN : Addr) : Sp := fun vs H Q _ => ∃ (a : Addr) (m s : Int), vs = [.ref a] ∧ NumAt CN H a m s ∧ Q (.int s) H
theorem ok_getm {f : Addr} {fd : FuncData} (F : Fun K "modulus" "Numbers.modulus" s_Numbers__modulus f fd) (T : TxN K mg CN) : FnOk P w K mg base CX0 1 f fd ["self"] (spGetM CN) := by
  refine F.ok sc_Numbers__modulus (fun vs H Q E h => ?_) (fun cdv A outer s H vs Q E hr h => ?_)
  · obtain ⟨_, _, _, rfl, _⟩ := h
    rfl
  obtain ⟨a, m, s, rfl, ⟨⟨dx, ha⟩, _⟩, q⟩ := h
  refine ⟨_, (pss_one (ps_ret (pe_fld (pv 0) rfl))), ?_⟩
  exact ⟨_, rfl, a, CN, dx, _, _, rfl, ha, T.cl_Numbers, T.aM, nf_m m s, q⟩
theorem ok_gets {f : Addr} {fd : FuncData} (F : Fun K "seed" "Numbers.seed" s_Numbers__seed f fd) (T : TxN K mg CN) : FnOk P w K mg base CX0 1 f fd ["self"] (spGetS CN) := by
  refine F.ok sc_Numbers__seed (fun vs H Q E h => ?_) (fun cdv A outer s H vs Q E hr h => ?_)
  · obtain ⟨_, _, _, rfl, _⟩ := h
    rfl
  obtain ⟨a, m, s, rfl, ⟨⟨dx, ha⟩, _⟩, q⟩ := h
  refine ⟨_, (pss_one (ps_ret (pe_fld (pv 0) rfl))), ?_⟩
  exact ⟨_, rfl, a, CN, dx, _, _, rfl, ha, T.cl_Numbers, T.aS, nf_s m s, q⟩
def spCode (CN : Addr) : Sp := fun vs H Q _ => ∃ (a : Addr) (m s : Int) (z : Str), vs = [.ref a, .str z] ∧ NumAt CN H a m s ∧ Q (.int (codeZ m s z.cps.toList)) H
theorem ok_code {f : Addr} {fd : FuncData} (F : Fun K "_code" "Numbers._code" s_Numbers___code f fd) (T : TxN K mg CN) : FG P w K mg base CX0 1 f fd ["self", "text"] (spCode CN) := by
  refine fun_okG F sc_Numbers___code (fun vs H Q E h => ?_) (fun cdv A outer s H vs Q E gd hr h => ?_)
  · obtain ⟨_, _, _, _, rfl, _⟩ := h
    rfl
  have nd := sc_Numbers___code.nd
  obtain ⟨a, m, s, z, rfl, hN, q⟩ := h
  obtain ⟨⟨dx, ha⟩, m0, m1, s0, s1⟩ := id hN
  -- self 0, text 1, number 2, character 3
  refine ⟨_, (pss_cons (ps_set (i := 2) nd rfl (Or.inl rfl) (pe_op op_add (pe_fld (pv 0) rfl) pe_int))
      (pss_cons (ps_for PassesOwn.never rfl (pi_str (pv 1)) (pg_name (i := 3) nd rfl (Or.inl rfl))
        (pss_one (ps_set (i := 2) nd rfl (Or.inl rfl) (pe_op op_mod (pe_op op_add (pe_op op_mul (pv 2) pe_int) (pe_callB call_ord (by rfl) T.b_ord (by decide +kernel) (pa_cons (pv 3) pa_nil))) (pe_fld (pv 0) rfl)))))
      (pss_one (ps_ret (pv 2))))), ?_⟩
  refine ⟨_, rfl, a, CN, dx, _, _, rfl, ha, T.cl_Numbers, T.aS, nf_s m s, _, _, rfl, rfl, ?_⟩
  refine ⟨_, rfl, z, rfl, for_signs (x := z) (fun i σ H2 => ∃ v : Option V, σ = [some (.ref a), some (.str z), some (.int (codeZ m s (z.cps.toList.take i))), v] ∧ H2 = H) ⟨none, rfl, rfl⟩ ?_ ?_⟩
  · rintro i c σ H2 hc ⟨v, rfl, rfl⟩
    obtain ⟨c0, c1⟩ := codeZ_le m0 m1 s0 s1 (z.cps.toList.take i)
    refine ⟨_, rfl, _, _, rfl, rfl, .inr ⟨by decide, by decide⟩, _, rfl, _, rfl, rfl, _, _, rfl, rfl, ?_⟩
    refine ⟨_, rfl, a, CN, dx, _, _, rfl, ha, T.cl_Numbers, T.aM, nf_m m s, _, _, rfl, rfl, (by show 0 < m; omega), ?_⟩
    refine ⟨some (.str ⟨#[c]⟩), ?_, rfl⟩
    rw [take_more hc, codeZ_more]
    rfl
  · rintro σ H2 ⟨v, rfl, rfl⟩
    rw [List.take_length]
    exact ⟨_, rfl, q⟩
def spKnown (CN : Addr) : Sp := spCode CN
theorem ok_known {f : Addr} {fd : FuncData} (F : Fun K "known" "Numbers.known" s_Numbers__known f fd) (T : TxN K mg CN) (m_Numbers__code : MethG P w K mg base CN "_code" 1 ["self", "text"] (spCode CN)) : FG P w K mg base CX0 2 f fd ["self", "name"] (spKnown CN) := by
  refine fun_okG F sc_Numbers__known (fun vs H Q E h => ?_) (fun cdv A outer s H vs Q E gd hr h => ?_)
  · obtain ⟨_, _, _, _, rfl, _⟩ := h
    rfl
  obtain ⟨a, m, s, z, rfl, hN, q⟩ := h
  obtain ⟨dx, ha⟩ := hN.1
  refine ⟨_, (pss_one (ps_ret (pe_mg T.cl_Numbers m_Numbers__code gd (hr.mono (by decide)) (pv 0) (pa_cons (pv 1) pa_nil)))), ?_⟩
  exact ⟨_, rfl, a, dx, _, rfl, ha, nf_no m s (by decide +kernel) (by decide +kernel), _, rfl, a, m, s, z, rfl, hN, q⟩
def spCell (CN : Addr) : Sp := fun vs H Q _ => ∃ (a : Addr) (m s : Int) (z : Str) (i : Int), vs = [.ref a, .str z, .int i] ∧ NumAt CN H a m s ∧ z.length ≤ 1000 ∧ i.natAbs.log2 < 1920 ∧ Q (.int (codeZ m s (cellT z i).cps.toList)) H
theorem ok_cell {f : Addr} {fd : FuncData} (F : Fun K "cell" "Numbers.cell" s_Numbers__cell f fd) (T : TxN K mg CN) (m_Numbers__code : MethG P w K mg base CN "_code" 1 ["self", "text"] (spCode CN))
    (c_cell_text : Cal P w K mg base "cell_text" 1 ["array", "index"] spCellText) : FG P w K mg base CX0 2 f fd ["self", "array", "index"] (spCell CN) := by
  refine fun_okG F sc_Numbers__cell (fun vs H Q E h => ?_) (fun cdv A outer s H vs Q E gd hr h => ?_)
  · obtain ⟨_, _, _, _, _, rfl, _⟩ := h
    rfl
  obtain ⟨a, m, s, z, i, rfl, hN, lz1, li, q⟩ := h
  obtain ⟨dx, ha⟩ := hN.1
  refine ⟨_, (pss_one (ps_ret (pe_mg T.cl_Numbers m_Numbers__code gd (hr.mono (by decide)) (pv 0) (pa_cons (pe_cg c_cell_text gd (hr.mono (by decide)) (by rfl) (pa_cons (pv 1) (pa_cons (pv 2) pa_nil))) pa_nil)))), ?_⟩
  exact ⟨_, rfl, a, dx, _, rfl, ha, nf_no m s (by decide +kernel) (by decide +kernel), _, rfl, _, rfl, z, i, rfl, lz1, li, a, m, s, _, rfl, hN, q⟩
def spWork (CN : Addr) : Sp := fun vs H Q _ => ∃ (a t : Addr) (m s : Int) (z : Str) (as : List Int), vs = [.ref a, .str z, .ref t] ∧ NumAt CN H a m s ∧ H t = some (.tup (as.map V.int)) ∧ (∀ x ∈ as, 0 ≤ x ∧ x < m) ∧ Q (.int (workZ m s z.cps.toList as)) H
theorem ok_work {f : Addr} {fd : FuncData} (F : Fun K "work" "Numbers.work" s_Numbers__work f fd) (T : TxN K mg CN) (m_Numbers__code : MethG P w K mg base CN "_code" 1 ["self", "text"] (spCode CN)) : FG P w K mg base CX0 2 f fd ["self", "word", "arguments"] (spWork CN) := by
  refine fun_okG F sc_Numbers__work (fun vs H Q E h => ?_) (fun cdv A outer s H vs Q E gd hr h => ?_)
  · obtain ⟨_, _, _, _, _, _, rfl, _⟩ := h
    rfl
  have nd := sc_Numbers__work.nd
  obtain ⟨a, t, m, s, z, as, rfl, hN, ht, has, q⟩ := h
  obtain ⟨⟨dx, ha⟩, m0, m1, s0, s1⟩ := id hN
  -- self 0, word 1, arguments 2, number 3, argument 4, mixed 5
  refine ⟨_, (pss_cons (ps_set (i := 3) nd rfl (Or.inl rfl) (pe_mg T.cl_Numbers m_Numbers__code gd (hr.mono (by decide)) (pv 0) (pa_cons (pv 1) pa_nil)))
      (pss_cons (ps_for PassesOwn.never rfl (pi_tup (pv 2)) (pg_name (i := 4) nd rfl (Or.inl rfl))
        (pss_cons (ps_set (i := 5) nd rfl (Or.inl rfl) (pe_op op_add (pe_op op_mul (pv 3) (pe_op op_add (pe_fld (pv 0) rfl) pe_int)) (pe_op op_mul (pv 4) (pe_op op_add (pv 3) pe_int))))
          (pss_one (ps_set (i := 3) nd rfl (Or.inl rfl) (pe_op op_mod (pe_op op_add (pe_op op_add (pv 5) (pe_op op_mul (pv 4) (pv 4))) pe_int) (pe_fld (pv 0) rfl))))))
      (pss_one (ps_ret (pv 3))))), ?_⟩
  refine ⟨_, rfl, a, dx, _, rfl, ha, nf_no m s (by decide +kernel) (by decide +kernel), _, rfl, a, m, s, z, rfl, hN, ?_⟩
  refine ⟨_, rfl, t, rfl, ⟨_, SqT.of ht⟩, for_tup (K := K) (a := t) (xs := as.map V.int) (fun i σ H2 => ∃ v u : Option V, σ = [some (.ref a), some (.str z), some (.ref t), some (.int (workZ m s z.cps.toList (as.take i))), v, u] ∧ H2 = H)
    ⟨none, none, rfl, rfl⟩ (fun i σ H2 _ ⟨_, _, _, e⟩ => by rw [e]; exact SqT.of ht) ?_ ?_⟩
  · rintro i x σ H2 hx ⟨v, u, rfl, rfl⟩
    rw [List.getElem?_map] at hx
    obtain ⟨y, hy, rfl⟩ := Option.map_eq_some_iff.mp hx
    obtain ⟨y0, y1⟩ := has y (List.mem_of_getElem? hy)
    obtain ⟨c0, c1⟩ := workZ_le m0 m1 s0 s1 z.cps.toList (as.take i)
    have b1 : CMul (workZ m s z.cps.toList (as.take i)) (s + 7) := .inl ⟨by omega, by omega⟩
    have b2 : CMul y (workZ m s z.cps.toList (as.take i) + 13) := .inl ⟨by omega, by omega⟩
    have b3 : CMul y y := .inl ⟨by omega, by omega⟩
    refine ⟨_, rfl, _, rfl, a, CN, dx, _, _, rfl, ha, T.cl_Numbers, T.aS, nf_s m s, _, _, rfl, rfl, _, _, rfl, rfl, b1, _, rfl, _, rfl, _, _, rfl, rfl, _, _, rfl, rfl, b2, _, _, rfl, rfl, ?_⟩
    refine ⟨_, rfl, _, rfl, _, rfl, _, _, rfl, rfl, b3, _, _, rfl, rfl, _, _, rfl, rfl, _, rfl, a, CN, dx, _, _, rfl, ha, T.cl_Numbers, T.aM, nf_m m s, _, _, rfl, rfl, (by show 0 < m; omega), ?_⟩
    refine ⟨some (.int y), some (.int (workZ m s z.cps.toList (as.take i) * (s + 7) + y * (workZ m s z.cps.toList (as.take i) + 13))), ?_, rfl⟩
    rw [take_more hy, workZ_more]
    rfl
  · rintro σ H2 ⟨v, u, rfl, rfl⟩
    rw [List.length_map, List.take_length]
    exact ⟨_, rfl, q⟩
/-- ==: with another Numbers, or anything else -/
def spEqN (K : PySem.W.Frag) (CN : Addr) : Sp := fun vs H Q _ => ∃ (a : Addr) (m s : Int) (y : V), vs = [.ref a, y] ∧ NumAt CN H a m s ∧
  ((∃ (b : Addr) (m' s' : Int), y = .ref b ∧ NumAt CN H b m' s' ∧ TyX K H y (.ref CN) ∧ PySem.W.kitOne K (.ref CN) (.ref CN) = some true ∧ Q (.bl (decide (m = m' ∧ s = s'))) H) ∨
    (∃ t, TyX K H y t ∧ PySem.W.kitOne K t (.ref CN) = some false ∧ Q (.bl false) H))
theorem ok_eqn {f : Addr} {fd : FuncData} (F : Fun K "__eq__" "Numbers.__eq__" s_Numbers____eq__ f fd) (T : TxN K mg CN) : FG P w K mg base CX0 1 f fd ["self", "other"] (spEqN K CN) := by
  refine fun_okG F sc_Numbers____eq__ (fun vs H Q E h => ?_) (fun cdv A outer s H vs Q E gd hr h => ?_)
  · obtain ⟨_, _, _, _, rfl, _⟩ := h
    rfl
  obtain ⟨a, m, s, y, rfl, hN, h⟩ := h
  obtain ⟨dx, ha⟩ := hN.1
  -- self 0, other 1
  refine ⟨_, (pss_one (ps_ret (pe_and (pe_callB call_isi (by rfl) T.b_isinstance (by decide +kernel) (pa_cons (pv 1) (pa_cons (pe_glob (v := .ref CN) (by rfl) T.g_Numbers rfl) pa_nil))) (pe_and (pe_eqS (pe_fld (pv 0) rfl) (pe_fld (pv 1) rfl)) (pe_one (pe_eqS (pe_fld (pv 0) rfl) (pe_fld (pv 1) rfl))))))), ?_⟩
  rcases h with ⟨b, m', s', rfl, hB, ty, kt, q⟩ | ⟨t, ty, kt, q⟩
  · obtain ⟨dy, hb⟩ := hB.1
    refine ⟨_, rfl, _, _, _, _, true, rfl, .own CN, ty, kt, _, rfl, iteT ?_⟩
    refine ⟨_, rfl, a, CN, dx, _, _, rfl, ha, T.cl_Numbers, T.aM, nf_m m s, _, rfl, b, CN, dy, _, _, rfl, hb, T.cl_Numbers, T.aM, nf_m m' s', rfl, _, rfl, ?_⟩
    rw [dec_int]
    by_cases e : m = m'
    · rw [show (m == m') = true from beq_iff_eq.mpr e]
      refine iteT ?_
      refine ⟨_, rfl, a, CN, dx, _, _, rfl, ha, T.cl_Numbers, T.aS, nf_s m s, _, rfl, b, CN, dy, _, _, rfl, hb, T.cl_Numbers, T.aS, nf_s m' s', rfl, ?_⟩
      rw [show decide (m = m' ∧ s = s') = decide (V.int s = V.int s') by simp [e]] at q
      exact q
    · rw [show (m == m') = false from beq_eq_false_iff_ne.mpr e]
      refine iteF ?_
      rw [show decide (m = m' ∧ s = s') = false by simp [e]] at q
      exact q
  · exact ⟨_, rfl, _, _, _, _, false, rfl, .own CN, ty, kt, _, rfl, iteF q⟩
/-- the text of a Numbers -/
def reprN (m s : Int) : Str := (((Str.ofString "Numbers(" ++ Str.ofString (toString m)) ++ Str.ofString ", ") ++ Str.ofString (toString s)) ++ Str.ofString ")"
theorem small_log {i : Int} (h0 : 0 ≤ i) (h1 : i ≤ 1000000000) : i.natAbs.log2 < 1920 := by
  have e : i.natAbs < 2 ^ 30 := by omega
  rcases Nat.eq_zero_or_pos i.natAbs with z | z
  · rw [z]
    decide
  · exact Nat.lt_of_lt_of_le ((Nat.log2_lt (Nat.ne_of_gt z)).mpr e) (by decide)
def spReprN (CN : Addr) : Sp := fun vs H Q _ => ∃ (a : Addr) (m s : Int), vs = [.ref a] ∧ NumAt CN H a m s ∧ Q (.str (reprN m s)) H
theorem ok_reprn {f : Addr} {fd : FuncData} (F : Fun K "__repr__" "Numbers.__repr__" s_Numbers____repr__ f fd) (T : TxN K mg CN) : FG P w K mg base CX0 1 f fd ["self"] (spReprN CN) := by
  refine fun_okG F sc_Numbers____repr__ (fun vs H Q E h => ?_) (fun cdv A outer s H vs Q E gd hr h => ?_)
  · obtain ⟨_, _, _, rfl, _⟩ := h
    rfl
  obtain ⟨a, m, s, rfl, hN, q⟩ := h
  obtain ⟨⟨dx, ha⟩, m0, m1, s0, s1⟩ := id hN
  -- self 0
  refine ⟨_, (pss_one (ps_ret (pe_joined (PJ.cons pe_str (PJ.cons (pe_fmt (pe_fld (pv 0) rfl)) (PJ.cons pe_str (PJ.cons (pe_fmt (pe_fld (pv 0) rfl)) (PJ.cons pe_str PJ.nil)))))))), ?_⟩
  have lm := small_log (show 0 ≤ m by omega) m1
  have ls := small_log s0 s1
  have n1 := int_text_len_1921 lm
  have n2 := int_text_len_1921 ls
  have k1 : (Str.ofString "Numbers(").length = 8 := by decide +kernel
  have k2 : (Str.ofString ", ").length = 2 := by decide +kernel
  have k3 : (Str.ofString ")").length = 1 := by decide +kernel
  refine ⟨_, rfl, (by rw [emp_app, k1]; decide), ?_⟩
  rw [emp_app]
  refine ⟨_, rfl, a, CN, dx, _, _, rfl, ha, T.cl_Numbers, T.aM, nf_m m s, .inr ⟨m, rfl, lm, ?_⟩⟩
  refine ⟨_, rfl, by rw [strLen_append, k1]; exact Nat.le_trans (show _ ≤ 8000 by omega) (by decide), ?_⟩
  refine ⟨_, rfl, by rw [strLen_append, strLen_append, k1, k2]; exact Nat.le_trans (show _ ≤ 8000 by omega) (by decide), ?_⟩
  refine ⟨_, rfl, a, CN, dx, _, _, rfl, ha, T.cl_Numbers, T.aS, nf_s m s, .inr ⟨s, rfl, ls, ?_⟩⟩
  refine ⟨_, rfl, by rw [strLen_append, strLen_append, strLen_append, k1, k2]; exact Nat.le_trans (show _ ≤ 8000 by omega) (by decide), ?_⟩
  refine ⟨_, rfl, by rw [strLen_append, strLen_append, strLen_append, strLen_append, k1, k2, k3]; exact Nat.le_trans (show _ ≤ 8000 by omega) (by decide), ?_⟩
  exact q
end
end Lk
set_option Elab.async false
set_option linter.all false
namespace Lk
open PySem PySem.Spec PyProof.Rows L2 G TL
/-! ### the world Texts -/
abbrev s_Texts__known : Stmt := inClass (top 12) 0
theorem sc_Texts__known : FnScope ["self", "name"] ["self", "name"] (defScope s_Texts__known) := ⟨rfl, rfl, rfl, by decide +kernel, rfl, by decide +kernel, by decide +kernel⟩
abbrev s_Texts__cell : Stmt := inClass (top 12) 1
theorem sc_Texts__cell : FnScope ["self", "array", "index"] ["self", "array", "index"] (defScope s_Texts__cell) := ⟨rfl, rfl, rfl, by decide +kernel, rfl, by decide +kernel, by decide +kernel⟩
abbrev s_Texts__work : Stmt := inClass (top 12) 2
theorem sc_Texts__work : FnScope ["self", "word", "arguments", "told"] ["self", "word", "arguments"] (defScope s_Texts__work) := ⟨rfl, rfl, rfl, by decide +kernel, rfl, by decide +kernel, by decide +kernel⟩
abbrev s_Texts____eq__ : Stmt := inClass (top 12) 3
theorem sc_Texts____eq__ : FnScope ["self", "other"] ["self", "other"] (defScope s_Texts____eq__) := ⟨rfl, rfl, rfl, by decide +kernel, rfl, by decide +kernel, by decide +kernel⟩
abbrev s_Texts____repr__ : Stmt := inClass (top 12) 4
theorem sc_Texts____repr__ : FnScope ["self"] ["self"] (defScope s_Texts____repr__) := ⟨rfl, rfl, rfl, by decide +kernel, rfl, by decide +kernel, by decide +kernel⟩
structure TxW (K : PySem.W.Frag) (mg : Str → Option Value) (CT : Addr) : Prop where
  b_isinstance : mg "isinstance" = none
  g_Texts : mg "Texts" = some (.ref CT)
  cl_Texts : Cls K CT
def TxtAt (CT : Addr) (H : Hp) (a : Addr) : Prop := ∃ dx, H a = some (.ins CT dx [])
def workT (z : Str) (ys : List Str) : Str := ((z ++ Str.ofString "(") ++ Txt.join (Str.ofString ", ") ys) ++ Str.ofString ")"
def spWKnown : Sp := fun vs H Q _ => ∃ (a : Addr) (z : Str), vs = [.ref a, .str z] ∧ Q (.str z) H
def spWCell : Sp := fun vs H Q _ => ∃ (a : Addr) (z : Str) (i : Int), vs = [.ref a, .str z, .int i] ∧ z.length ≤ 1000 ∧ i.natAbs.log2 < 1920 ∧ Q (.str (cellT z i)) H
def spWWork : Sp := fun vs H Q _ => ∃ (a t : Addr) (z : Str) (ys : List Str), vs = [.ref a, .str z, .ref t] ∧ H t = some (.tup (ys.map V.str)) ∧ z.length ≤ 1000 ∧ ys.length ≤ 1000 ∧ (∀ y ∈ ys, y.length ≤ 1000) ∧ Q (.str (workT z ys)) H
def spEqT (K : PySem.W.Frag) (CT : Addr) : Sp := fun vs H Q _ => ∃ (a : Addr) (y : V), vs = [.ref a, y] ∧
  ∃ t k, TyX K H y t ∧ PySem.W.kitOne K t (.ref CT) = some k ∧ Q (.bl k) H
def spReprT : Sp := fun vs H Q _ => ∃ (a : Addr), vs = [.ref a] ∧ Q (.str (Str.ofString "Texts()")) H
theorem sum_le : ∀ {ys : List Str}, (∀ y ∈ ys, y.length ≤ 1000) → (ys.map (·.length)).sum ≤ ys.length * 1000
  | [], _ => Nat.zero_le _
  | y :: r, h => by
    have ih := sum_le (ys := r) fun z hz => h z (List.mem_cons_of_mem _ hz)
    have h0 := h y List.mem_cons_self
    rw [List.map_cons, List.sum_cons, List.length_cons]
    omega
section
variable {P : Program} {w : World} {K : PySem.W.Frag} {mg : Str → Option Value} {base : Heap} {CT : Addr}
theorem ok_wknown {f : Addr} {fd : FuncData} (F : Fun K "known" "Texts.known" s_Texts__known f fd) : FG P w K mg base CX0 1 f fd ["self", "name"] spWKnown := by
  refine fun_okG F sc_Texts__known (fun vs H Q E h => ?_) (fun cdv A outer s H vs Q E gd hr h => ?_)
  · obtain ⟨_, _, rfl, _⟩ := h
    rfl
  obtain ⟨a, z, rfl, q⟩ := h
  exact ⟨_, (pss_one (ps_ret (pv 1))), _, rfl, q⟩
theorem ok_wcell {f : Addr} {fd : FuncData} (F : Fun K "cell" "Texts.cell" s_Texts__cell f fd) (c_cell_text : Cal P w K mg base "cell_text" 1 ["array", "index"] spCellText) : FG P w K mg base CX0 2 f fd ["self", "array", "index"] spWCell := by
  refine fun_okG F sc_Texts__cell (fun vs H Q E h => ?_) (fun cdv A outer s H vs Q E gd hr h => ?_)
  · obtain ⟨_, _, _, rfl, _⟩ := h
    rfl
  obtain ⟨a, z, i, rfl, lz', li, q⟩ := h
  exact ⟨_, (pss_one (ps_ret (pe_cg c_cell_text gd (hr.mono (by decide)) (by rfl) (pa_cons (pv 1) (pa_cons (pv 2) pa_nil))))), _, rfl, _, rfl, z, i, rfl, lz', li, q⟩
theorem ok_weq {f : Addr} {fd : FuncData} (F : Fun K "__eq__" "Texts.__eq__" s_Texts____eq__ f fd) (T : TxW K mg CT) : FG P w K mg base CX0 1 f fd ["self", "other"] (spEqT K CT) := by
  refine fun_okG F sc_Texts____eq__ (fun vs H Q E h => ?_) (fun cdv A outer s H vs Q E gd hr h => ?_)
  · obtain ⟨_, _, rfl, _⟩ := h
    rfl
  obtain ⟨a, y, rfl, t, k, ty, kt, q⟩ := h
  -- self 0, other 1
  refine ⟨_, (pss_cons (ps_if (pt_not (pt_val (pe_callB call_isi (by rfl) T.b_isinstance (by decide +kernel) (pa_cons (pv 1) (pa_cons (pe_glob (v := .ref CT) (by rfl) T.g_Texts rfl) pa_nil)))))
        (pss_one (ps_ret pe_bl))
        pss_nil)
      (pss_one (ps_ret pe_bl))), ?_⟩
  refine ⟨_, rfl, _, _, _, _, k, rfl, .own CT, ty, kt, ?_⟩
  cases k with
  | true => exact ⟨_, rfl, q⟩
  | false => exact ⟨_, rfl, q⟩
theorem ok_wrepr {f : Addr} {fd : FuncData} (F : Fun K "__repr__" "Texts.__repr__" s_Texts____repr__ f fd) : FG P w K mg base CX0 1 f fd ["self"] spReprT := by
  refine fun_okG F sc_Texts____repr__ (fun vs H Q E h => ?_) (fun cdv A outer s H vs Q E gd hr h => ?_)
  · obtain ⟨_, rfl, _⟩ := h
    rfl
  obtain ⟨a, rfl, q⟩ := h
  exact ⟨_, (pss_one (ps_ret pe_str)), q⟩
theorem ok_wwork {f : Addr} {fd : FuncData} (F : Fun K "work" "Texts.work" s_Texts__work f fd) : FG P w K mg base CX0 1 f fd ["self", "word", "arguments"] spWWork := by
  refine fun_okG F sc_Texts__work (fun vs H Q E h => ?_) (fun cdv A outer s H vs Q E gd hr h => ?_)
  · obtain ⟨_, _, _, _, rfl, _⟩ := h
    rfl
  have nd := sc_Texts__work.nd
  obtain ⟨a, t, z, ys, rfl, ht, l1, l2, l3, q⟩ := h
  -- self 0, word 1, arguments 2, told 3
  refine ⟨_, (pss_cons (ps_set (i := 3) nd rfl (Or.inl rfl) (pe_join pe_str (pv 2)))
      (pss_one (ps_ret (pe_joined (PJ.cons (pe_fmt (pv 1)) (PJ.cons pe_str (PJ.cons (pe_fmt (pv 3)) (PJ.cons pe_str PJ.nil)))))))), ?_⟩
  have sm := sum_le l3
  have c2 : (Str.ofString ", ").length = 2 := rfl
  refine ⟨⟨_, rfl⟩, _, rfl, _, t, ys, rfl, rfl, .inr (SqT.of ht), ?_, ?_⟩
  · rw [c2]
    exact Nat.le_trans (show _ ≤ 1000 * 1000 + 1000 * 2 by omega) (by decide)
  have lj : (Txt.join (Str.ofString ", ") ys).length ≤ 1002000 := by
    rw [join_eq]
    have := StrLaws.join_length_le (Str.ofString ", ") ys
    rw [c2] at this
    omega
  refine ⟨_, rfl, .inl ⟨z, rfl, Nat.le_trans l1 (by decide), ?_⟩⟩
  have e0 : Str.empty ++ z = z := emp_app z
  have n1 : (Str.ofString "(").length = 1 := rfl
  have n2 : (Str.ofString ")").length = 1 := rfl
  refine ⟨z, rfl, by rw [e0]; exact Nat.le_trans l1 (by decide), ?_⟩
  rw [e0]
  refine ⟨_, rfl, by rw [strLen_append, n1]; exact Nat.le_trans (show _ ≤ 1001 by omega) (by decide), ?_⟩
  refine ⟨_, rfl, .inl ⟨_, rfl, Nat.le_trans lj (by decide), ?_⟩⟩
  refine ⟨_, rfl, by rw [strLen_append, strLen_append, n1]; exact Nat.le_trans (show _ ≤ 1004000 by omega) (by decide), ?_⟩
  refine ⟨_, rfl, by rw [strLen_append, strLen_append, strLen_append, n1, n2]; exact Nat.le_trans (show _ ≤ 1004001 by omega) (by decide), ?_⟩
  exact q
end
end Lk
set_option Elab.async false
set_option linter.all false
namespace Lk
open PySem PySem.Spec PyProof.Rows L2 G TL
/-! ### leaves -/
abbrev s__law_leaf : Stmt := top 19
theorem sc__law_leaf : FnScope ["purse", "ways", "way", "stem"] ["purse", "ways"] (defScope s__law_leaf) := ⟨rfl, rfl, rfl, by decide +kernel, rfl, by decide +kernel, by decide +kernel⟩
abbrev s__law_far : Stmt := top 20
theorem sc__law_far : FnScope ["purse", "size"] ["purse"] (defScope s__law_far) := ⟨rfl, rfl, rfl, by decide +kernel, rfl, by decide +kernel, by decide +kernel⟩
structure TxF (mg : Str → Option Value) : Prop where
  b_str : mg "str" = none
theorem But.free {p a : Addr} {H H' : Hp} (b : But p H H') (n : a ≠ p) (h : H' a = none) : H a = none := by
  cases e : H a with
  | none => rfl
  | some o =>
    rw [b a o n e] at h
    cases h
theorem big_log {i : Int} (h : i.natAbs ≤ 10 ^ 40) : i.natAbs.log2 < 1920 := by
  rcases Nat.eq_zero_or_pos i.natAbs with z | z
  · rw [z]
    decide
  · exact (Nat.log2_lt (Nat.ne_of_gt z)).mpr (Nat.lt_of_le_of_lt h (by decide))
theorem short99 : ∀ k : Fin 99, (Str.ofString (toString (((k.val : Nat) : Int) - 49))).length ≤ 64 := by decide +kernel
def Uni (z : Str) : Prop := PyData.strOk z = true
theorem uni_iff {z : Str} : Uni z ↔ ∀ c ∈ z.cps.toList, c < 1114112 := by
  unfold Uni PyData.strOk
  rw [Array.all_eq_true']
  constructor
  · exact fun h c hc => by simpa using h c (by simpa using hc)
  · exact fun h c hc => by simpa using h c (by simpa using hc)
theorem Uni.app {a b : Str} (h1 : Uni a) (h2 : Uni b) : Uni (a ++ b) := by
  rw [uni_iff] at *
  intro c hc
  have e : (a ++ b).cps.toList = a.cps.toList ++ b.cps.toList := Array.toList_append
  rw [e] at hc
  rcases List.mem_append.mp hc with h | h
  · exact h1 c h
  · exact h2 c h
theorem uni_of (x : String) : Uni (Str.ofString x) := by
  rw [uni_iff, Str.ofString_eq_toList]
  intro c hc
  obtain ⟨d, _, rfl⟩ := List.mem_map.mp (by simpa using hc : c ∈ x.toList.map Char.toNat)
  have := d.valid
  have h2 : d.toNat = d.val.toNat := rfl
  rcases this with h | ⟨_, h⟩
  · have h' : d.val.toNat < 0xd800 := h
    omega
  · have h' : d.val.toNat < 0x110000 := h
    omega
theorem uni_low {z : Str} (h : Low z) : Uni z := uni_iff.mpr fun c hc => Nat.lt_of_le_of_lt (h c hc).2 (by decide)
theorem uni_sgl {c : Nat} (h : c < 1114112) : Uni (⟨#[c]⟩ : Str) := uni_iff.mpr fun d hd => by
  obtain rfl : d = c := by simpa using hd
  exact h
def spLeaf : Sp := fun vs H Q _ => ∃ (p : Addr) (n : Int), vs = [.ref p, .int n] ∧ 0 < n ∧ n ≤ 4 ∧ Pur H p ∧ ∀ z H', z.length ≤ 300 → Uni z → Pur H' p → But p H H' → Q (.str z) H'
def spFar : Sp := fun vs H Q _ => ∃ p : Addr, vs = [.ref p] ∧ Pur H p ∧ ∀ (i : Int) H', i.natAbs.log2 < 1920 → Pur H' p → But p H H' → Q (.int i) H'
section
variable {P : Program} {w : World} {K : PySem.W.Frag} {mg : Str → Option Value} {base : Heap}
theorem ok_far {f : Addr} {fd : FuncData} (F : Fun K "_law_far" "_law_far" s__law_far f fd) (c__law_draw : Cal P w K mg base "_law_draw" 1 ["purse", "many"] spDraw) : FG P w K mg base CX0 2 f fd ["purse"] spFar := by
  refine fun_okG F sc__law_far (fun vs H Q E h => ?_) (fun cdv A outer s H vs Q E gd hr h => ?_)
  · obtain ⟨_, rfl, _⟩ := h
    rfl
  have nd := sc__law_far.nd
  obtain ⟨p, rfl, hp, q⟩ := h
  -- purse 0, size 1
  refine ⟨_, (pss_cons (ps_set (i := 1) nd rfl (Or.inl rfl) (pe_ixL K (pe_lst (pa_cons pe_int (pa_cons pe_int (pa_cons pe_int (pa_cons (pe_op op_pow pe_int pe_int) (pa_cons (pe_op op_pow pe_int pe_int) pa_nil)))))) (pe_cg c__law_draw gd (hr.mono (by decide)) (by rfl) (pa_cons (pv 0) (pa_cons pe_int pa_nil)))))
      (pss_one (ps_ret (pe_op op_mul (pe_ixL K (pe_lst (pa_cons pe_int (pa_cons (pe_un un_neg pe_int) pa_nil))) (pe_cg c__law_draw gd (hr.mono (by decide)) (by rfl) (pa_cons (pv 0) (pa_cons pe_int pa_nil)))) (pe_op op_sub (pv 1) (pe_cg c__law_draw gd (hr.mono (by decide)) (by rfl) (pa_cons (pv 0) (pa_cons pe_int pa_nil)))))))), ?_⟩
  have pw : ∀ n : Int, 0 ≤ n → n ≤ 39 → CPow 10 n := fun n h0 h1 => ⟨h0, by omega, by decide⟩
  refine ⟨_, _, rfl, rfl, pw 9 (by decide) (by decide), _, _, rfl, rfl, pw 39 (by decide) (by decide), lz (by simp), fun l hl => ?_⟩
  refine ⟨_, rfl, p, _, rfl, hp.new hl, by decide, by decide, fun d1 H1 d10 d11 hp1 b1 => ?_⟩
  have l1 := b1 l _ (nep hp hl) upd_same
  obtain ⟨v, hv, mv⟩ := pick (xs := [V.int 0, .int 4, .int 400, .int ((10 : Int) ^ (9 : Int).toNat), .int ((10 : Int) ^ (39 : Int).toNat)]) d10 d11
  refine ⟨_, _, _, _, rfl, rfl, SqL.of l1, hv, ?_⟩
  obtain ⟨n, rfl, n0, n1⟩ : ∃ n : Int, v = .int n ∧ 0 ≤ n ∧ n ≤ 10 ^ 39 := by
    simp only [List.mem_cons, List.not_mem_nil, or_false] at mv
    rcases mv with rfl | rfl | rfl | rfl | rfl <;> exact ⟨_, rfl, by decide, by decide⟩
  refine ⟨_, rfl, lz (by simp), fun l2 hl2 => ?_⟩
  refine ⟨_, rfl, p, _, rfl, hp1.new hl2, by decide, by decide, fun d2 H2 d20 d21 hp2 b2 => ?_⟩
  have l2' := b2 l2 _ (nep hp1 hl2) upd_same
  obtain ⟨v2, hv2, mv2⟩ := pick (xs := [V.int 1, .int (-1)]) d20 d21
  refine ⟨_, _, _, _, rfl, rfl, SqL.of l2', hv2, ?_⟩
  obtain ⟨g, rfl, g1⟩ : ∃ n : Int, v2 = .int n ∧ (n = 1 ∨ n = -1) := by
    simp only [List.mem_cons, List.not_mem_nil, or_false] at mv2
    rcases mv2 with rfl | rfl
    · exact ⟨_, rfl, .inl rfl⟩
    · exact ⟨_, rfl, .inr rfl⟩
  refine ⟨_, rfl, _, rfl, p, _, rfl, hp2, by decide, by decide, fun d3 H3 d30 d31 hp3 b3 => ?_⟩
  refine ⟨_, _, rfl, rfl, _, _, rfl, rfl, .inl ⟨by omega, by omega⟩, ?_⟩
  have bb : But p H H3 := ((But.new (But.refl p H) hl).trans b1).trans (((But.new (But.refl p H1) hl2).trans b2).trans b3)
  refine q (g * (n - d3)) _ ?_ hp3 bb
  refine big_log ?_
  have t39 : (10 : Int) ^ 39 + 3 ≤ 10 ^ 40 := by decide
  have e40 : ((10 ^ 40 : Nat) : Int) = 10 ^ 40 := by decide
  have d31' : d3 < 3 := d31
  generalize (10 : Int) ^ 39 = a39 at *
  generalize ha : (10 : Int) ^ 40 = a40 at *
  generalize (10 ^ 40 : Nat) = b40 at *
  rcases g1 with rfl | rfl
  · rw [Int.one_mul]; omega
  · rw [Int.neg_mul, Int.one_mul]; omega
theorem ok_leaf {f : Addr} {fd : FuncData} (F : Fun K "_law_leaf" "_law_leaf" s__law_leaf f fd) (T : TxF mg) (c__law_draw : Cal P w K mg base "_law_draw" 1 ["purse", "many"] spDraw)
    (c__law_names : Cal P w K mg base "_law_names" 3 ["purse", "many", "used"] spNames) : FG P w K mg base CX0 4 f fd ["purse", "ways"] spLeaf := by
  refine fun_okG F sc__law_leaf (fun vs H Q E h => ?_) (fun cdv A outer s H vs Q E gd hr h => ?_)
  · obtain ⟨_, _, rfl, _⟩ := h
    rfl
  have nd := sc__law_leaf.nd
  obtain ⟨p, n, rfl, n0, n4, hp, q⟩ := h
  -- purse 0, ways 1, way 2, stem 3
  refine ⟨_, (pss_cons (ps_par (i := 2) (j := 3) (by rfl) nd rfl rfl (by decide) rfl rfl (pa_cons (pe_cg c__law_draw gd (hr.mono (by decide)) (by rfl) (pa_cons (pv 0) (pa_cons (pv 1) pa_nil))) (pa_cons (pe_ixL K (pe_cg c__law_names gd (hr.mono (by decide)) (by rfl) (pa_cons (pv 0) (pa_cons pe_int (pa_cons (pe_lst pa_nil) pa_nil)))) pe_int) pa_nil)) (by rfl))
      (pss_cons (ps_if (pt_eqS (pv 2) pe_int)
        (pss_one (ps_ret (pe_op op_add_str (pe_op op_add_str (pe_op op_add_str (pe_ix ix_str pe_str (pe_cg c__law_draw gd (hr.mono (by decide)) (by rfl) (pa_cons (pv 0) (pa_cons pe_int pa_nil))) (fun _ _ => rfl)) pe_str) (pe_callTy call_str_int (by rfl) T.b_str (by decide +kernel) (pa_cons (pe_op op_sub (pe_cg c__law_draw gd (hr.mono (by decide)) (by rfl) (pa_cons (pv 0) (pa_cons pe_int pa_nil))) pe_int) pa_nil))) pe_str)))
        pss_nil)
      (pss_one (ps_ret (pe_ixL K (pe_lst (pa_cons (pv 3) (pa_cons (pe_op op_add_str (pe_op op_add_str (pv 3) pe_str) (pe_ix ix_str pe_str (pe_cg c__law_draw gd (hr.mono (by decide)) (by rfl) (pa_cons (pv 0) (pa_cons pe_int pa_nil))) (fun _ _ => rfl))) (pa_cons (pe_op op_add_str pe_str (pv 3)) pa_nil)))) (pv 2)))))), ?_⟩
  refine ⟨_, rfl, _, rfl, p, n, rfl, hp, n0, by omega, fun d1 H1 d10 d11 hp1 b1 => ?_⟩
  refine ⟨_, rfl, lz (by simp), fun u hu => ?_⟩
  refine ⟨p, u, 1, [], rfl, hp1.new hu, upd_same, by decide, by decide, fun l ws H2 wl ww hp2 b2 hl hl' => ?_⟩
  obtain ⟨stem, rfl⟩ : ∃ x, ws = [x] := by
    match ws, wl with
    | [x], _ => exact ⟨x, rfl⟩
  have wst : Wd stem := ww _ (by simp)
  refine ⟨l, _, _, _, rfl, rfl, SqL.of hl', rfl, ?_⟩
  have bu : But p H H2 := b1.trans ((But.new (But.refl p H1) hu).trans b2)
  have tl1 := wst.len
  have lA : (Str.ofString "[").length = 1 := rfl
  have lB : (Str.ofString "]").length = 1 := rfl
  have lC : (Str.ofString "@").length = 1 := rfl
  have lD : (Str.ofString "?").length = 1 := rfl
  refine ⟨_, _, rfl, _, rfl, rfl, _, rfl, ite2 (fun c => ?_) (fun c => ?_)⟩
  · refine ⟨_, rfl, p, _, rfl, hp2, by decide, by decide, fun d3 H3 d30 d31 hp3 b3 => ?_⟩
    obtain ⟨c1, hc, mc⟩ := pickS (z := Str.ofString "ABCDEFGHIJKLMNOPQRSTUVWXYZ") d30 d31
    have lE : (⟨#[c1]⟩ : Str).length = 1 := rfl
    refine ⟨_, _, _, rfl, rfl, (by decide +kernel), hc, _, _, rfl, rfl, lz (by rw [lA, lE]; decide), ?_⟩
    refine ⟨_, rfl, p, _, rfl, hp3, by decide, by decide, fun d4 H4 d40 d41 hp4 b4 => ?_⟩
    have d41' : d4 < 99 := d41
    have lg : (d4 - 49).natAbs.log2 < 1920 := big_log (Nat.le_trans (show (d4 - 49).natAbs ≤ 100 by omega) (by decide))
    have lt : (Str.ofString (toString (d4 - 49))).length ≤ 64 := by
      obtain ⟨n9, rfl⟩ := Int.eq_ofNat_of_zero_le d40
      exact short99 ⟨n9, by omega⟩
    refine ⟨_, _, rfl, rfl, d4 - 49, rfl, lg, _, _, rfl, rfl, ?_, _, _, rfl, rfl, ?_, ?_⟩
    · rw [strLen_append, lA, lE]
      exact Nat.le_trans (show _ ≤ 66 by omega) (by decide)
    · rw [strLen_append, strLen_append, lA, lB, lE]
      exact Nat.le_trans (show _ ≤ 67 by omega) (by decide)
    refine q _ _ ?_ (((((uni_sgl (show c1 < 1114112 from (show ∀ c ∈ (Str.ofString "ABCDEFGHIJKLMNOPQRSTUVWXYZ").cps.toList, c < 1114112 by decide +kernel) c1 mc)).app (uni_of _)).app (uni_of _)).app (uni_of _))) hp4 (bu.trans (b3.trans b4))
    rw [strLen_append, strLen_append, strLen_append, lA, lB, lE]
    omega
  · have dn : d1 ≠ 3 := fun z => c (by rw [z]; decide +kernel)
    refine ⟨_, rfl, _, rfl, _, _, rfl, rfl, ?_, ?_⟩
    · rw [lC]
      exact Nat.le_trans (show _ ≤ 9 by omega) (by decide)
    refine ⟨_, rfl, p, _, rfl, hp2, by decide, by decide, fun d3 H3 d30 d31 hp3 b3 => ?_⟩
    obtain ⟨c1, hc, mc⟩ := pickS (z := Str.ofString "123") d30 d31
    have lE : (⟨#[c1]⟩ : Str).length = 1 := rfl
    refine ⟨_, _, _, rfl, rfl, (by decide +kernel), hc, _, _, rfl, rfl, ?_, ?_⟩
    · rw [strLen_append, lC, lE]
      exact Nat.le_trans (show _ ≤ 10 by omega) (by decide)
    refine ⟨_, rfl, _, _, rfl, rfl, ?_, ?_⟩
    · rw [lD]
      exact Nat.le_trans (show _ ≤ 9 by omega) (by decide)
    refine ⟨lz (by simp), fun l2 hl2 => ?_⟩
    obtain ⟨v, hv, mv⟩ := pick (xs := [V.str stem, .str ((stem ++ Str.ofString "@") ++ (⟨#[c1]⟩ : Str)), .str (Str.ofString "?" ++ stem)]) d10 (by show d1 < (3 : Int); omega)
    refine ⟨_, rfl, _, _, _, _, rfl, rfl, SqL.of upd_same, hv, ?_⟩
    obtain ⟨z, rfl, hz, uz⟩ : ∃ z : Str, v = .str z ∧ z.length ≤ 300 ∧ Uni z := by
      have u0 := uni_low wst.low
      have u1 := uni_sgl (show c1 < 1114112 from (show ∀ c ∈ (Str.ofString "123").cps.toList, c < 1114112 by decide +kernel) c1 mc)
      simp only [List.mem_cons, List.not_mem_nil, or_false] at mv
      rcases mv with rfl | rfl | rfl
      · exact ⟨_, rfl, by omega, u0⟩
      · exact ⟨_, rfl, by rw [strLen_append, strLen_append, lC, lE]; omega, (u0.app (uni_of _)).app u1⟩
      · exact ⟨_, rfl, by rw [strLen_append, lD]; omega, (uni_of _).app u0⟩
    exact q z _ hz uz (hp3.new hl2) (bu.trans (But.new b3 hl2))
end
end Lk
set_option Elab.async false
set_option linter.all false
namespace Lk
open PySem PySem.Spec PyProof.Rows L2 G TL
open C8 (pss_cut tCut)
abbrev s__law_right : Stmt := top 21
theorem sc__law_right : FnScope ["purse", "realm", "one", "tag", "letter", "far", "some", "due", "top", "grain", "others", "k", "each"] ["purse"] (defScope s__law_right) := ⟨rfl, rfl, rfl, by decide +kernel, rfl, by decide +kernel, by decide +kernel⟩
abbrev s_law : Stmt := top 22
theorem sc_law : FnScope ["cells", "told", "k"] ["cells"] (defScope s_law) := ⟨rfl, rfl, rfl, by decide +kernel, rfl, by decide +kernel, by decide +kernel⟩
structure ClsT (K : PySem.W.Frag) (C : Addr) : Prop where
  cl : Cls K C
  ha : PySem.W.findIn K (.ref C) "__class__" = some (some (.builtin "object.__class__"))
  hn : PySem.W.specialIn K (.builtin "object.__class__") "__get__" = some (some (.builtin "getset_descriptor.__get__"))
  htk : PySem.W.takesIn K (.builtin "object.__class__") = some true
  hm : PySem.W.mroIn K C (.type "object") = some true
theorem ClsT.ty {K : PySem.W.Frag} {C a dx : Addr} {H : Hp} {fs : List (Str × V)} (c : ClsT K C) (h : H a = some (.ins C dx fs)) : TyX K H (.ref a) (.ref C) := .base (.ins h c.cl c.ha c.hn c.htk c.hm)
structure TxR (K : PySem.W.Frag) (mg : Str → Option Value) (CN CT : Addr) : Prop where
  b_str : mg "str" = none
  b_repr : mg "repr" = none
  b_tuple : mg "tuple" = none
  b_len : mg "len" = none
  b_bool : mg "bool" = none
  b_range : mg "range" = none
  cn : ClsT K CN
  ct : ClsT K CT
  ne_Numbers : NeC K CN
  ne_Texts : NeC K CT
  subT : ∀ T ∈ lfts, PySem.W.mroIn K CT (.type T) = some false
  nb_Texts : PySem.W.findIn K (.ref CT) "__bool__" = some none
  nl_Texts : PySem.W.findIn K (.ref CT) "__len__" = some none
  mk_Texts : Mk0 K mg "Texts" CT
  kTT : PySem.W.kitOne K (.ref CT) (.ref CT) = some true
  kNT : PySem.W.kitOne K (.ref CN) (.ref CT) = some false
  kTN : PySem.W.kitOne K (.ref CT) (.ref CN) = some false
  kb : ∀ T ∈ lfts, PySem.W.kitOne K (.type T) (.ref CT) = some false
  fTT : PySem.W.notFirst K CT (.ref CT) = true
  fNT : PySem.W.notFirst K CT (.ref CN) = true
  fTN : PySem.W.notFirst K CN (.ref CT) = true
  fb : ∀ T ∈ lfts, PySem.W.notFirst K CT (.type T) = true
theorem TxR.cl_Texts {K : PySem.W.Frag} {mg : Str → Option Value} {CN CT : Addr} (T : TxR K mg CN CT) : Cls K CT := T.ct.cl
def kSM {α : Type} : List α → List α → List α := fun us ws => us ++ ws.reverse
def kN {α : Type} : List α → List α → List α := fun us ws => us ++ ws
/-- what stands through the law: the purse, the world at r -/
structure Wt (CT p r : Addr) (H H2 : Hp) : Prop where
  pu : Pur H2 p
  at_ : TxtAt CT H2 r
  bu : But p H H2
section
variable {CT p r : Addr} {H H2 H3 : Hp}
theorem ins_ne {c C dx : Addr} {fs : List (Str × V)} (pu : Pur H2 p) (h : H2 c = some (.ins C dx fs)) : c ≠ p := by
  obtain ⟨_, _, _, e, _⟩ := pu
  exact ne_of h e (by intro z; cases z)
theorem Wt.step (W : Wt CT p r H H2) (pu : Pur H3 p) (c : But p H2 H3) : Wt CT p r H H3 := by
  obtain ⟨dx, h⟩ := W.at_
  exact ⟨pu, ⟨dx, c _ _ (ins_ne W.pu h) h⟩, W.bu.trans c⟩
theorem Wt.same (W : Wt CT p r H H2) (c : Same H2 H3) : Wt CT p r H H3 := W.step (W.pu.mono c) (But.same c)
theorem Wt.new (W : Wt CT p r H H2) {x : Addr} (hx : H2 x = none) (o : HO) : Wt CT p r H (L2.upd H2 x o) := W.same (Same.new (Same.refl _) hx)
theorem Wt.over (W : Wt CT p r H H2) {D : Addr} {xs ys : List V} (hd : H2 D = some (.lst xs)) (hn : H D = none) (hp : D ≠ p) : Wt CT p r H (L2.upd H2 D (.lst ys)) := by
  obtain ⟨pu, ⟨d1, n1⟩, bu⟩ := W
  refine ⟨?_, ⟨d1, ?_⟩, ?_⟩
  · obtain ⟨x, y, z, e, r⟩ := pu
    exact ⟨x, y, z, (upd_ne (Ne.symm hp)).trans e, r⟩
  · exact (upd_ne (ne_of n1 hd (by intro z; cases z))).trans n1
  · exact fun c o n e => (upd_ne (ne_of_none e hn)).trans (bu c o n e)
end
theorem dpS {K : PySem.W.Frag} {H : Hp} : ∀ zs : List Str, DpAll K H (zs.map V.str) (zs.map PyData.str)
  | [] => .nil
  | z :: r => .cons (.str z) (dpS r)
theorem dpB {K : PySem.W.Frag} {H : Hp} (b : Bool) : ∀ n : Nat, DpAll K H (List.replicate n (V.bl b)) (List.replicate n (PyData.bool b))
  | 0 => .nil
  | n + 1 => .cons (.bl b) (dpB b n)
theorem eqvS : ∀ zs : List Str, PyData.eqvAll (zs.map PyData.str) (zs.map PyData.str) = true
  | [] => rfl
  | z :: r => by
    show (PyData.eqv (.str z) (.str z) && PyData.eqvAll (r.map PyData.str) (r.map PyData.str)) = true
    rw [eqvS r]
    simp [PyData.eqv]
theorem shS {zs : List Str} (h : ∀ z ∈ zs, Uni z) : SeqAt.shaped (.list (zs.map PyData.str)) = true := by
  have e : PyData.canLay0 (.list (zs.map PyData.str)) = true := by
    show PyData.canLayAll0 (zs.map .str) = true
    rw [canLayAll_strs']
    exact List.all_eq_true.mpr h
  have d : ∀ l : List Str, PyData.depthAll (l.map PyData.str) ≤ 1 := by
    intro l
    induction l with
    | nil => decide
    | cons x r ih =>
      show max (PyData.depth (.str x)) (PyData.depthAll (r.map PyData.str)) ≤ 1
      have e : PyData.depth (.str x) ≤ 1 := by simp [PyData.depth]
      omega
  have d2 : PyData.depth (.list (zs.map PyData.str)) ≤ 64 := by
    have := d zs
    simp only [PyData.depth]
    omega
  unfold SeqAt.shaped
  rw [e, decide_eq_true d2]
  rfl
theorem eqvL (zs : List Str) : PyData.eqv (.list (zs.map PyData.str)) (.list (zs.map PyData.str)) = true := by
  show PyData.eqvAll _ _ = true
  exact eqvS zs
/-- two lists of the same texts -/
theorem same_texts {K : PySem.W.Frag} {H : Hp} {a b : Addr} {Q : VK} (zs : List Str) (ha : H a = some (.lst (zs.map V.str))) (hb : H b = some (.lst (zs.map V.str))) (hu : ∀ z ∈ zs, Uni z) (q : Q (.bl false) H) : rNeD K (.ref a) (.ref b) H Q := by
  refine ⟨_, _, .lst (SqL.of ha) (dpS zs), .lst (SqL.of hb) (dpS zs), shS hu, shS hu, ?_⟩
  rw [eqvL]
  exact q
theorem atI0 {α : Type} (x : α) (l : List α) : atI (x :: l) 0 = some x := by
  unfold atI ixN
  simp
theorem cut1 (x : Str) (l : List Str) : cutV ((x :: l).map V.str) (some 1) none = l.map V.str := by
  have e : HT.sIx ((x :: l).map V.str).length 0 (some 1) = 1 := by
    show (if (1 : Int) < 0 then ((1 : Int) + (((x :: l).map V.str).length : Int)).toNat else min (1 : Int).toNat ((x :: l).map V.str).length) = 1
    rw [if_neg (by decide), List.length_map, List.length_cons]
    show min 1 _ = 1
    omega
  unfold cutV
  rw [e]
  show (l.map V.str).take (((x :: l).map V.str).length - 1) = l.map V.str
  rw [List.length_map, List.length_cons]
  exact List.take_of_length_le (by rw [List.length_map]; omega)
theorem str_assoc (a b c : Str) : (a ++ b) ++ c = a ++ (b ++ c) := by
  show (⟨(a.cps ++ b.cps) ++ c.cps⟩ : Str) = ⟨a.cps ++ (b.cps ++ c.cps)⟩
  rw [Array.append_assoc]
theorem str_empty (a : Str) : a ++ Str.empty = a := by
  show (⟨a.cps ++ #[]⟩ : Str) = a
  rw [Array.append_empty]
theorem join_two (sp : Str) : ∀ (rs : List Str) (x : Str), Str.join sp (x :: rs) = x ++ Str.join Str.empty (rs.map (sp ++ ·))
  | [], x => (str_empty x).symm
  | [y], x => by
    show x ++ sp ++ y = x ++ (sp ++ y)
    rw [str_assoc]
  | y :: z :: r, x => by
    have ih := join_two sp (z :: r) y
    show x ++ sp ++ Str.join sp (y :: z :: r) = x ++ ((sp ++ y) ++ Str.empty ++ Str.join Str.empty ((z :: r).map (sp ++ ·)))
    rw [ih, str_empty, str_assoc, str_assoc]
theorem uni_cat : ∀ ys : List Str, (∀ y ∈ ys, Uni y) → Uni (Str.join Str.empty ys)
  | [], _ => uni_of ""
  | [y], h => h y List.mem_cons_self
  | y :: z :: r, h => by
    show Uni (y ++ Str.empty ++ Str.join Str.empty (z :: r))
    rw [str_empty]
    exact (h y List.mem_cons_self).app (uni_cat (z :: r) fun w hw => h w (List.mem_cons_of_mem _ hw))
theorem due_eq (t s0 : Str) (rs : List Str) : (((t ++ Str.ofString "(") ++ s0) ++ Txt.join (Str.ofString "") (rs.map (Str.ofString ", " ++ ·))) ++ Str.ofString ")" = workT t (s0 :: rs) := by
  unfold workT
  rw [join_eq, join_eq, join_two]
  show ((((t ++ Str.ofString "(") ++ s0) ++ Str.join Str.empty (rs.map (Str.ofString ", " ++ ·))) ++ Str.ofString ")") = _
  rw [str_assoc (t ++ Str.ofString "(") s0]
theorem lft_ty {K : PySem.W.Frag} {H : Hp} {v : V} {T : String} (h : Lft H v T) : TyX K H v (.type T) := by
  cases h with
  | non => exact .base .non
  | bl b => exact .base (.bl b)
  | int i => exact .base (.int i)
  | str z => exact .base (.str z)
  | lst e => exact .base (.lst e)
  | tup e => exact .base (.tup e)
/-- what stands among the others: a Numbers, or a built-in value -/
def Oth (CN : Addr) (H : Hp) (x : V) : Prop := (∃ b m s, x = .ref b ∧ NumAt CN H b m s) ∨ ∃ T, Lft H x T
theorem Oth.mono {CN : Addr} {H H2 : Hp} {x : V} (h : Oth CN H x) (c : Same H H2) : Oth CN H2 x := by
  rcases h with ⟨b, m, s, rfl, ⟨dx, e⟩, r⟩ | ⟨T, h⟩
  · exact .inl ⟨b, m, s, rfl, ⟨dx, c _ _ e⟩, r⟩
  · refine .inr ⟨T, ?_⟩
    cases h with
    | non => exact .non
    | bl b => exact .bl b
    | int i => exact .int i
    | str z => exact .str z
    | lst e => exact .lst (c _ _ e)
    | tup e => exact .tup (c _ _ e)
theorem Oth.eq {K : PySem.W.Frag} {mg : Str → Option Value} {CN CT : Addr} (T : TxR K mg CN CT) {H : Hp} {x : V} (h : Oth CN H x) : ∃ t, TyX K H x t ∧ PySem.W.notFirst K CT t = true ∧ PySem.W.kitOne K t (.ref CT) = some false := by
  rcases h with ⟨b, m, s, rfl, ⟨dx, e⟩, r⟩ | ⟨t, h⟩
  · exact ⟨_, T.cn.ty e, T.fNT, T.kNT⟩
  · exact ⟨_, lft_ty h, T.fb _ h.mem, T.kb _ h.mem⟩
theorem Oth.ne {K : PySem.W.Frag} {mg : Str → Option Value} {CN CT : Addr} (T : TxR K mg CN CT) {H : Hp} {x : V} {r : Addr} {Q : VK} (h : Oth CN H x) (hr : TxtAt CT H r) (q : Q (.bl true) H) : rNeMix K CT CN (spEqT K CT) (spEqN K CN) x (.ref r) H Q := by
  obtain ⟨dr, er⟩ := hr
  rcases h with ⟨b, m, s, rfl, n⟩ | ⟨t, h⟩
  · obtain ⟨dx, e⟩ := n.1
    exact .inl ⟨b, dx, _, .ref CT, rfl, e, T.ct.ty er, T.fTN, b, m, s, .ref r, rfl, n, .inr ⟨.ref CT, T.ct.ty er, T.kTN, false, rfl, q⟩⟩
  · exact .inr ⟨r, dr, [], t, rfl, er, h, r, x, rfl, _, false, lft_ty h, T.kb _ h.mem, false, rfl, q⟩
def spRight : Sp := fun vs H Q _ => ∃ p : Addr, vs = [.ref p] ∧ Pur H p ∧ ∀ H', But p H H' → Q (.bl true) H'
section
variable {P : Program} {w : World} {K : PySem.W.Frag} {mg : Str → Option Value} {base : Heap} {CN CT : Addr}
theorem ok_right {f : Addr} {fd : FuncData} (F : Fun K "_law_right" "_law_right" s__law_right f fd) (T : TxR K mg CN CT)
    (c__law_draw : Cal P w K mg base "_law_draw" 1 ["purse", "many"] spDraw) (c__law_names : Cal P w K mg base "_law_names" 3 ["purse", "many", "used"] spNames)
    (c__law_leaf : Cal P w K mg base "_law_leaf" 4 ["purse", "ways"] spLeaf) (c__law_far : Cal P w K mg base "_law_far" 2 ["purse"] spFar)
    (k_Numbers : MkG P w K mg base CX0 "Numbers" CN 3 ["self", "modulus", "seed"] (spInit CN))
    (m_Texts_known : MethG P w K mg base CT "known" 1 ["self", "name"] spWKnown) (m_Texts_known_name : MethK P w K mg base CT "known" 1 ["self", "name"] 1 ["name"] kN spWKnown)
    (m_Texts_cell : MethG P w K mg base CT "cell" 2 ["self", "array", "index"] spWCell) (m_Texts_cell_index_array : MethK P w K mg base CT "cell" 2 ["self", "array", "index"] 1 ["index", "array"] kSM spWCell)
    (m_Texts_work : MethG P w K mg base CT "work" 1 ["self", "word", "arguments"] spWWork) (m_Texts_work_arguments_word : MethK P w K mg base CT "work" 1 ["self", "word", "arguments"] 1 ["arguments", "word"] kSM spWWork)
    (e_Numbers : EqG P w K mg base CN 1 (spEqN K CN)) (e_Texts : EqG P w K mg base CT 1 (spEqT K CT)) (r_Texts : ReG P w K mg base CT 1 spReprT) :
    FG P w K mg base CX0 6 f fd ["purse"] spRight := by
  refine fun_okG F sc__law_right (fun vs H Q E h => ?_) (fun cdv A outer s H vs Q E gd hr h => ?_)
  · obtain ⟨_, rfl, _⟩ := h
    rfl
  have nd := sc__law_right.nd
  obtain ⟨p, rfl, hp, q⟩ := h
  -- purse 0c, realm 1c, one 2, tag 3, letter 4, far 5, some 6, due 7, top 8, grain 9, others 10, k 11, each 12
  refine ⟨_, (pss_cons (ps_asg (pe_tup (pa_cons (pe_mk0 T.mk_Texts (by rfl)) (pa_cons (pe_cg c__law_leaf gd (hr.mono (by decide)) (by rfl) (pa_cons (pv 0) (pa_cons pe_int pa_nil))) pa_nil))) (pg_tup (by rfl) (pgs_cons (pg_name (i := 1) nd rfl (Or.inr rfl)) (pgs_cons (pg_name (i := 2) nd rfl (Or.inl rfl)) pgs_nil))))
      (pss_cons (ps_par (i := 3) (j := 4) (by rfl) nd rfl rfl (by decide) rfl rfl (pa_cons (pe_ixL K (pe_cg c__law_names gd (hr.mono (by decide)) (by rfl) (pa_cons (pv 0) (pa_cons pe_int (pa_cons (pe_lst pa_nil) pa_nil)))) pe_int) (pa_cons (pe_ix ix_str pe_str (pe_cg c__law_draw gd (hr.mono (by decide)) (by rfl) (pa_cons (pv 0) (pa_cons pe_int pa_nil))) (fun _ _ => rfl)) pa_nil)) (by rfl))
      (pss_cut (ps_par (i := 5) (j := 6) (by rfl) nd rfl rfl (by decide) rfl rfl (pa_cons (pe_cg c__law_far gd (hr.mono (by decide)) (by rfl) (pa_cons (pv 0) pa_nil)) (pa_cons (pe_lc (own := [("k", 11)]) (g := gName 11) (by rfl) nd (pi_range1 (by rfl) T.b_range (pa_cons (pe_op op_add pe_int (pe_cg c__law_draw gd (hr.mono (by decide)) (by rfl) (pa_cons (pv 0) (pa_cons pe_int pa_nil)))) pa_nil)) (blkOk_by (own := [("k", 11)]) (N := ["purse", "realm", "one", "tag", "letter", "far", "some", "due", "top", "grain", "others", "k", "each"]) (sc := defScope s__law_right) (by decide +kernel)) (fun _ _ _ _ _ => pg_name (i := 11) nd rfl (Or.inl rfl)) (fun _ _ _ _ _ => pts_nil) (fun _ _ _ _ _ => (pe_cg c__law_leaf gd (hr.mono (by decide)) (by rfl) (pa_cons (pv 0) (pa_cons pe_int pa_nil))))) pa_nil)) (by rfl))
      (pss_cut (ps_if (pt_eqS (pe_cg c__law_draw gd (hr.mono (by decide)) (by rfl) (pa_cons (pv 0) (pa_cons pe_int pa_nil))) pe_int)
        (pss_one (ps_asg (pe_op op_add_str (pe_op op_add_str (pe_op op_add_str (pe_op op_add_str (pe_op op_add_str (pv 3) pe_str) (pv 2)) pe_str) (pv 2)) pe_str) (pg_sub (pv 6) (pe_cg c__law_draw gd (hr.mono (by decide)) (by rfl) (pa_cons (pv 0) (pa_cons (pe_callB call_len_seq (by rfl) T.b_len (by decide +kernel) (pa_cons (pv 6) pa_nil)) pa_nil))) set_list)))
        pss_nil)
      (pss_cut (ps_if (pt_neD hr (pe_lst (pa_cons (pe_mg T.cl_Texts m_Texts_known gd (hr.mono (by decide)) (pv 1) (pa_cons (pv 2) pa_nil)) (pa_cons (pe_mgK T.cl_Texts m_Texts_known_name gd (hr.mono (by decide)) (pv 1) (pk_cons (pv 2) pk_nil)) (pa_cons (pe_mg T.cl_Texts m_Texts_known gd (hr.mono (by decide)) (pv 1) (pa_cons (pe_op op_add_str pe_str (pv 3)) pa_nil)) pa_nil)))) (pe_lst (pa_cons (pv 2) (pa_cons (pv 2) (pa_cons (pe_op op_add_str pe_str (pv 3)) pa_nil)))))
        (pss_one (ps_ret pe_bl))
        pss_nil)
      (pss_cons (ps_set (i := 7) nd rfl (Or.inl rfl) (pe_op op_add_str (pe_op op_add_str (pe_op op_add_str (pv 4) pe_str) (pe_callTy call_str_int (by rfl) T.b_str (by decide +kernel) (pa_cons (pv 5) pa_nil))) pe_str))
      (pss_cut (ps_if (pt_neD hr (pe_lst (pa_cons (pe_mg T.cl_Texts m_Texts_cell gd (hr.mono (by decide)) (pv 1) (pa_cons (pv 4) (pa_cons (pv 5) pa_nil))) (pa_cons (pe_mgK T.cl_Texts m_Texts_cell_index_array gd (hr.mono (by decide)) (pv 1) (pk_cons (pv 5) (pk_cons (pv 4) pk_nil))) pa_nil))) (pe_lst (pa_cons (pv 7) (pa_cons (pv 7) pa_nil))))
        (pss_one (ps_ret pe_bl))
        pss_nil)
      (pss_cons (ps_set (i := 7) nd rfl (Or.inl rfl) (pe_op op_add_str (pe_op op_add_str (pe_op op_add_str (pe_op op_add_str (pv 3) pe_str) (pe_ixL K (pv 6) pe_int)) (pe_join pe_str (pe_lc (own := [("each", 12)]) (g := gName 12) (by rfl) nd (pi_list (pe_slice sl_list (pv 6) (po_some pe_int) po_none)) (blkOk_by (own := [("each", 12)]) (N := ["purse", "realm", "one", "tag", "letter", "far", "some", "due", "top", "grain", "others", "k", "each"]) (sc := defScope s__law_right) (by decide +kernel)) (fun _ _ _ _ _ => pg_name (i := 12) nd rfl (Or.inl rfl)) (fun _ _ _ _ _ => pts_nil) (fun _ _ _ _ _ => (pe_op op_add_str pe_str (pv 12)))))) pe_str))
      (pss_cut (ps_if (pt_neD hr (pe_lst (pa_cons (pe_mg T.cl_Texts m_Texts_work gd (hr.mono (by decide)) (pv 1) (pa_cons (pv 3) (pa_cons (pe_callTy call_tuple_of (by rfl) T.b_tuple (by decide +kernel) (pa_cons (pv 6) pa_nil)) pa_nil))) (pa_cons (pe_mgK T.cl_Texts m_Texts_work_arguments_word gd (hr.mono (by decide)) (pv 1) (pk_cons (pe_callTy call_tuple_of (by rfl) T.b_tuple (by decide +kernel) (pa_cons (pv 6) pa_nil)) (pk_cons (pv 3) pk_nil))) pa_nil))) (pe_lst (pa_cons (pv 7) (pa_cons (pv 7) pa_nil))))
        (pss_one (ps_ret pe_bl))
        pss_nil)
      (pss_cons (ps_par (i := 8) (j := 9) (by rfl) nd rfl rfl (by decide) rfl rfl (pa_cons (pe_op op_add pe_int (pe_cg c__law_draw gd (hr.mono (by decide)) (by rfl) (pa_cons (pv 0) (pa_cons (pe_op op_pow pe_int pe_int) pa_nil)))) (pa_cons (pe_cg c__law_draw gd (hr.mono (by decide)) (by rfl) (pa_cons (pv 0) (pa_cons (pe_op op_pow pe_int pe_int) pa_nil))) pa_nil)) (by rfl))
      (pss_cut (ps_set (i := 10) nd rfl (Or.inl rfl) (pe_lst (pa_cons (pe_kg k_Numbers gd (hr.mono (by decide)) pass0 (by rfl) (pa_cons (pv 8) (pa_cons (pv 9) pa_nil))) (pa_cons pe_str (pa_cons pe_non (pa_cons (pe_tup pa_nil) (pa_cons pe_int (pa_cons pe_bl (pa_cons (pe_lst pa_nil) (pa_cons (pv 5) (pa_cons (pv 3) pa_nil)))))))))))
      (pss_cut (ps_if (PW.pt (pw_or (pt_neD hr (pe_lc (own := [("each", 12)]) (g := gName 12) (by rfl) nd (pi_list (pv 10)) (blkOk_by (own := [("each", 12)]) (N := ["purse", "realm", "one", "tag", "letter", "far", "some", "due", "top", "grain", "others", "k", "each"]) (sc := defScope s__law_right) (by decide +kernel)) (fun _ _ _ _ _ => pg_name (i := 12) nd rfl (Or.inl rfl)) (fun _ _ _ _ _ => pts_nil) (fun _ _ _ _ _ => (pe_eqOwn e_Texts gd hr (pv 1) (pv 12)))) (pe_op op_rep (pe_lst (pa_cons pe_bl pa_nil)) pe_int)) (pw_or1 (pt_neD hr (pe_lc (own := [("each", 12)]) (g := gName 12) (by rfl) nd (pi_list (pv 10)) (blkOk_by (own := [("each", 12)]) (N := ["purse", "realm", "one", "tag", "letter", "far", "some", "due", "top", "grain", "others", "k", "each"]) (sc := defScope s__law_right) (by decide +kernel)) (fun _ _ _ _ _ => pg_name (i := 12) nd rfl (Or.inl rfl)) (fun _ _ _ _ _ => pts_nil) (fun _ _ _ _ _ => (pe_neMix e_Texts e_Numbers T.ne_Texts T.ne_Numbers T.subT gd hr (pv 12) (pv 1)))) (pe_op op_rep (pe_lst (pa_cons pe_bl pa_nil)) pe_int)))))
        (pss_one (ps_ret pe_bl))
        pss_nil)
      (pss_one (ps_ret (pe_and (pe_eqS (pe_callB (call_reprOwn r_Texts gd (hr.mono (by decide))) (by rfl) T.b_repr (by decide +kernel) (pa_cons (pv 1) pa_nil)) pe_str) (pe_and (pe_eqOwn e_Texts gd hr (pv 1) (pe_mk0 T.mk_Texts (by rfl))) (pe_and (pe_not (pe_neOwn e_Texts T.ne_Texts gd hr (pv 1) (pe_mk0 T.mk_Texts (by rfl)))) (pe_one (pe_callTy (call_boolI T.nb_Texts T.nl_Texts) (by rfl) T.b_bool (by decide +kernel) (pa_cons (pv 1) pa_nil)))))))))))))))))))), ?_⟩
  -- realm, one
  refine fun rl dx hx hdx nex => ?_
  have pu1 := (hp.new (o := .own rl) hdx).new (q := rl) (o := .ins CT dx []) ((upd_ne nex.symm).trans hx)
  have x1 : (L2.upd (L2.upd H dx (.own rl)) rl (.ins CT dx [])) rl = some (.ins CT dx []) := upd_same
  have bu1 : But p H (L2.upd (L2.upd H dx (.own rl)) rl (.ins CT dx [])) := But.new (But.new (But.refl p H) hdx) ((upd_ne nex.symm).trans hx)
  have W1 : Wt CT p rl H _ := ⟨pu1, ⟨dx, x1⟩, bu1⟩
  generalize L2.upd (L2.upd H dx (.own rl)) rl (.ins CT dx []) = H1 at *
  refine ⟨_, rfl, p, 3, rfl, by decide, by decide, pu1, fun one H2 l1 u1 pu2 b2 => ?_⟩
  have W2 := W1.step pu2 b2
  refine ⟨lz (by simp), fun tt htt => ?_⟩
  refine ⟨tt, _, rfl, SqT.of upd_same, rfl, _, _, rfl, _, _, rfl, rfl, ?_⟩
  have W3 := W2.new htt (.tup [.ref rl, .str one])
  generalize L2.upd H2 tt (.tup [.ref rl, .str one]) = H3 at *
  -- tag, letter
  refine ⟨_, rfl, lz (by simp), fun u hu => ?_⟩
  refine ⟨p, u, 1, [], rfl, W3.pu.new hu, upd_same, by decide, by decide, fun l ws H4 wl ww pu4 b4 hl hl' => ?_⟩
  obtain ⟨tag, rfl⟩ : ∃ x, ws = [x] := by
    match ws, wl with
    | [x], _ => exact ⟨x, rfl⟩
  have wt : Wd tag := ww _ (by simp)
  have W4 := (W3.new hu _).step pu4 b4
  refine ⟨l, _, _, _, rfl, rfl, SqL.of hl', rfl, ?_⟩
  refine ⟨_, rfl, p, _, rfl, W4.pu, by decide, by decide, fun d H5 d0 d1 pu5 b5 => ?_⟩
  have W5 := W4.step pu5 b5
  obtain ⟨c, hc, mc⟩ := pickS (z := Str.ofString "ABCDEFGHIJKLMNOPQRSTUVWXYZ") d0 d1
  have uc : Uni (⟨#[c]⟩ : Str) := uni_sgl ((show ∀ c ∈ (Str.ofString "ABCDEFGHIJKLMNOPQRSTUVWXYZ").cps.toList, c < 1114112 by decide +kernel) c mc)
  refine ⟨_, _, _, rfl, rfl, (by decide +kernel), hc, _, _, rfl, ?_⟩
  -- far, some
  refine ⟨fun σ H9 => ∃ (far : Int) (D : Addr) (ss : List Str), σ = [some (.ref p), some (.ref rl), some (.str one), some (.str tag), some (.str ⟨#[c]⟩), some (.int far), some (.ref D), none, none, none, none, none, none] ∧
    far.natAbs.log2 < 1920 ∧ H9 D = some (.lst (ss.map V.str)) ∧ 1 ≤ ss.length ∧ ss.length ≤ 3 ∧ (∀ z ∈ ss, z.length ≤ 900 ∧ Uni z) ∧ D ≠ p ∧ H D = none ∧ Wt CT p rl H H9, ?_, ?_⟩
  · refine ⟨_, rfl, p, rfl, W5.pu, fun far H6 lf pu6 b6 => ?_⟩
    have W6 := W5.step pu6 b6
    refine ⟨_, rfl, p, _, rfl, W6.pu, by decide, by decide, fun e H7 e0 e1 pu7 b7 => ?_⟩
    have W7 := W6.step pu7 b7
    refine ⟨_, _, rfl, rfl, 1 + e, rfl, by omega, by omega, fun D hD => ?_⟩
    have nD : D ≠ p := nep W7.pu hD
    have hD0 : H D = none := W7.bu.free nD hD
    refine lc_range (lo := 0) (n := (1 + e).toNat) (fun i H3 => ∃ ns : List Str, H3 D = some (.lst (ns.map V.str)) ∧ ns.length = i ∧ (∀ z ∈ ns, z.length ≤ 900 ∧ Uni z) ∧ Wt CT p rl H H3)
      ⟨[], upd_same, rfl, (by simp), W7.new hD _⟩ ?_ ?_
    · rintro i H3 hi ⟨ns, n1, n2, n3, V3⟩
      refine ⟨rfl, ?_⟩
      refine tyes ?_
      refine ⟨_, rfl, p, 4, rfl, by decide, by decide, V3.pu, fun z H4 lz4 uz pu4 b5 => ?_⟩
      have n1' := b5 D _ nD n1
      refine ⟨_, n1', ?_, ns ++ [z], ?_, by simp [n2], ?_, (V3.step pu4 b5).over n1' hD0 nD⟩
      · rw [List.length_map, n2]
        exact Nat.lt_of_lt_of_le hi (lz (by omega))
      · show L2.upd H4 D (.lst (ns.map V.str ++ [V.str z])) D = _
        rw [upd_same, List.map_append]
        rfl
      · intro y hy
        rcases List.mem_append.mp hy with hy | hy
        · exact n3 y hy
        · obtain rfl : y = z := by simpa using hy
          exact ⟨by omega, uz⟩
    rintro H8 ⟨ns, n1, n2, n3, V8⟩
    exact ⟨_, _, rfl, far, D, ns, rfl, lf, n1, by omega, by omega, n3, nD, hD0, V8⟩
  rintro σ H9 ⟨far, D, ss, rfl, lf, dk, k1, k3, kz, nD, hD0, W9⟩
  have k0 : (Str.ofString "(").length = 1 := rfl
  have kA : (Str.ofString ", f(").length = 4 := rfl
  have kB : (Str.ofString "))").length = 2 := rfl
  have kC : (Str.ofString ")").length = 1 := rfl
  have kD : (Str.ofString "?").length = 1 := rfl
  have kE : (Str.ofString "[").length = 1 := rfl
  have kF : (Str.ofString "]").length = 1 := rfl
  have kG : (⟨#[c]⟩ : Str).length = 1 := rfl
  have lt := wt.len
  -- if draw == 0: some[..] = ..
  refine ⟨fun σ H9 => ∃ (D : Addr) (ss : List Str), σ = [some (.ref p), some (.ref rl), some (.str one), some (.str tag), some (.str ⟨#[c]⟩), some (.int far), some (.ref D), none, none, none, none, none, none] ∧
    H9 D = some (.lst (ss.map V.str)) ∧ 1 ≤ ss.length ∧ ss.length ≤ 3 ∧ (∀ z ∈ ss, z.length ≤ 900 ∧ Uni z) ∧ D ≠ p ∧ H D = none ∧ Wt CT p rl H H9, ?_, ?_⟩
  · refine ⟨_, rfl, p, _, rfl, W9.pu, by decide, by decide, fun e H10 e0 e1 pu10 b10 => ?_⟩
    have W10 := W9.step pu10 b10
    have dk' := b10 D _ nD dk
    refine ⟨rfl, _, rfl, ?_⟩
    refine ite2 (fun z => ?_) (fun z => ?_)
    · refine ⟨_, rfl, _, _, rfl, rfl, ?_, ?_⟩
      · rw [k0]
        exact Nat.le_trans (show _ ≤ 9 by omega) (by decide)
      refine ⟨_, rfl, _, _, rfl, rfl, ?_, _, _, rfl, rfl, ?_, ?_⟩
      · rw [strLen_append, k0]
        exact Nat.le_trans (show _ ≤ 309 by omega) (by decide)
      · rw [strLen_append, strLen_append, k0, kA]
        exact Nat.le_trans (show _ ≤ 313 by omega) (by decide)
      refine ⟨_, rfl, _, _, rfl, rfl, ?_, _, _, rfl, rfl, ?_, ?_⟩
      · rw [strLen_append, strLen_append, strLen_append, k0, kA]
        exact Nat.le_trans (show _ ≤ 613 by omega) (by decide)
      · rw [strLen_append, strLen_append, strLen_append, strLen_append, k0, kA, kB]
        exact Nat.le_trans (show _ ≤ 615 by omega) (by decide)
      refine ⟨_, rfl, _, rfl, _, rfl, D, _, rfl, .inl (SqL.of dk'), p, _, rfl, W10.pu, ?_, ?_, fun e2 H11 f0 f1 pu11 b11 => ?_⟩
      · rw [List.length_map]
        omega
      · rw [List.length_map]
        omega
      have dk2 := b11 D _ nD dk'
      have lf1 : e2 < ((ss.map V.str).length : Int) := f1
      have zU : Uni ((((((tag ++ Str.ofString "(") ++ one) ++ Str.ofString ", f(") ++ one) ++ Str.ofString "))")) := (((((uni_low wt.low).app (uni_of _)).app u1).app (uni_of _)).app u1).app (uni_of _)
      have zL : ((((((tag ++ Str.ofString "(") ++ one) ++ Str.ofString ", f(") ++ one) ++ Str.ofString "))")).length ≤ 900 := by
        rw [strLen_append, strLen_append, strLen_append, strLen_append, strLen_append, k0, kA, kB]
        omega
      generalize ((((((tag ++ Str.ofString "(") ++ one) ++ Str.ofString ", f(") ++ one) ++ Str.ofString "))")) = Z at *
      refine ⟨D, _, e2, e2.toNat, rfl, rfl, dk2, ?_, ?_⟩
      · unfold ixN
        rw [if_pos f0, if_pos lf1]
      refine ⟨D, ss.set e2.toNat Z, rfl, ?_, ?_, ?_, ?_, nD, hD0, (W10.step pu11 b11).over dk2 hD0 nD⟩
      · rw [List.map_set]
        exact upd_same
      · rw [List.length_set]
        exact k1
      · rw [List.length_set]
        exact k3
      · intro y hy
        rcases List.mem_or_eq_of_mem_set hy with h | rfl
        · exact kz y h
        · exact ⟨zL, zU⟩
    · exact ⟨D, ss, rfl, dk', k1, k3, kz, nD, hD0, W10⟩
  rintro σ H11 ⟨D, ss, rfl, dk, k1, k3, kz, nD, hD0, W11⟩
  -- known
  refine ⟨fun σ H9 => σ = [some (.ref p), some (.ref rl), some (.str one), some (.str tag), some (.str ⟨#[c]⟩), some (.int far), some (.ref D), none, none, none, none, none, none] ∧
    H9 D = some (.lst (ss.map V.str)) ∧ Wt CT p rl H H9, ?_, ?_⟩
  · obtain ⟨dy, ha⟩ := W11.at_
    refine ⟨_, rfl, rl, dy, _, rfl, ha, rfl, _, rfl, rl, one, rfl, ?_⟩
    refine ⟨_, rfl, rl, dy, _, rfl, ha, rfl, _, rfl, rfl, rl, one, rfl, ?_⟩
    refine ⟨_, rfl, rl, dy, _, rfl, ha, rfl, _, rfl, _, _, rfl, rfl, ?_, rl, _, rfl, ?_⟩
    · rw [kD]
      exact Nat.le_trans (show _ ≤ 9 by omega) (by decide)
    refine ⟨lz (by simp), fun l1 hl1 => ?_⟩
    dsimp only [tNil]
    refine ⟨_, rfl, _, rfl, _, rfl, _, _, rfl, rfl, ?_, lz (by simp), fun l2 hl2 => ?_⟩
    · rw [kD]
      exact Nat.le_trans (show _ ≤ 9 by omega) (by decide)
    refine same_texts [one, one, Str.ofString "?" ++ tag] ((upd_ne (ne_of_none upd_same hl2)).trans upd_same) upd_same ?_ ?_
    · intro z hz
      simp only [List.mem_cons, List.not_mem_nil, or_false] at hz
      rcases hz with rfl | rfl | rfl
      · exact u1
      · exact u1
      · exact (uni_of _).app (uni_low wt.low)
    refine ⟨_, rfl, iteF ?_⟩
    refine ⟨rfl, ?_, (W11.new hl1 _).new hl2 _⟩
    have dk1 := (upd_ne (o := .lst [.str one, .str one, .str (Str.ofString "?" ++ tag)]) (ne_of_none dk hl1)).trans dk
    exact (upd_ne (ne_of_none dk1 hl2)).trans dk1
  rintro σ H12 ⟨rfl, dk, W12⟩
  -- due, cell
  have ltx : (Str.ofString (toString far)).length ≤ 1921 := int_text_len_1921 lf
  refine ⟨_, rfl, _, _, rfl, rfl, ?_, _, rfl, far, rfl, lf, _, _, rfl, rfl, ?_, _, _, rfl, rfl, ?_, ?_⟩
  · rw [kG, kE]
    decide
  · rw [strLen_append, kG, kE]
    exact Nat.le_trans (show _ ≤ 1923 by omega) (by decide)
  · rw [strLen_append, strLen_append, kG, kE, kF]
    exact Nat.le_trans (show _ ≤ 1924 by omega) (by decide)
  refine ⟨fun σ H9 => ∃ v : Option V, σ = [some (.ref p), some (.ref rl), some (.str one), some (.str tag), some (.str ⟨#[c]⟩), some (.int far), some (.ref D), v, none, none, none, none, none] ∧
    H9 D = some (.lst (ss.map V.str)) ∧ Wt CT p rl H H9, ?_, ?_⟩
  · obtain ⟨dy, ha⟩ := W12.at_
    refine ⟨_, rfl, rl, dy, _, rfl, ha, rfl, _, rfl, _, rfl, rl, _, far, rfl, by rw [kG]; decide, lf, ?_⟩
    refine ⟨_, rfl, rl, dy, _, rfl, ha, rfl, _, rfl, _, rfl, rfl, rl, _, far, rfl, by rw [kG]; decide, lf, ?_⟩
    refine ⟨lz (by simp), fun l1 hl1 => ?_⟩
    dsimp only [tNil]
    refine ⟨_, rfl, _, rfl, lz (by simp), fun l2 hl2 => ?_⟩
    refine same_texts [cellT ⟨#[c]⟩ far, cellT ⟨#[c]⟩ far] ((upd_ne (ne_of_none upd_same hl2)).trans upd_same) upd_same ?_ ?_
    · intro z hz
      simp only [List.mem_cons, List.not_mem_nil, or_false, or_self] at hz
      rw [hz]
      exact ((uc.app (uni_of _)).app (uni_of _)).app (uni_of _)
    refine ⟨_, rfl, iteF ?_⟩
    refine ⟨_, rfl, ?_, (W12.new hl1 _).new hl2 _⟩
    have dk1 := (upd_ne (o := .lst [.str (cellT ⟨#[c]⟩ far), .str (cellT ⟨#[c]⟩ far)]) (ne_of_none dk hl1)).trans dk
    exact (upd_ne (ne_of_none dk1 hl2)).trans dk1
  rintro σ H13 ⟨v13, rfl, dk, W13⟩
  -- due, work
  obtain ⟨s0, rs, rfl⟩ : ∃ x l, ss = x :: l := by
    cases ss with
    | nil => simp at k1
    | cons x l => exact ⟨x, l, rfl⟩
  have u0 := kz s0 List.mem_cons_self
  have ur : ∀ z ∈ rs, z.length ≤ 900 ∧ Uni z := fun z hz => kz z (List.mem_cons_of_mem _ hz)
  have lr : rs.length ≤ 2 := by
    rw [List.length_cons] at k3
    omega
  refine ⟨_, rfl, _, _, rfl, rfl, ?_, _, rfl, D, _, _, _, rfl, rfl, SqL.of dk, atI0 _ _, _, _, rfl, rfl, ?_, ?_⟩
  · rw [k0]
    exact Nat.le_trans (show _ ≤ 9 by omega) (by decide)
  · rw [strLen_append, k0]
    exact Nat.le_trans (show _ ≤ 909 by omega) (by decide)
  refine ⟨⟨_, rfl⟩, ?_⟩
  refine ⟨_, rfl, _, rfl, D, _, rfl, SqL.of dk, fun S hS => ?_⟩
  have W14 := W13.new hS (.lst (cutV ((s0 :: rs).map V.str) (some 1) none))
  have dk1 := (upd_ne (o := .lst (cutV ((s0 :: rs).map V.str) (some 1) none)) (ne_of_none dk hS)).trans dk
  have s14 : (L2.upd H13 S (.lst (cutV ((s0 :: rs).map V.str) (some 1) none))) S = some (.lst (rs.map V.str)) := by
    rw [upd_same, cut1]
  generalize L2.upd H13 S (.lst (cutV ((s0 :: rs).map V.str) (some 1) none)) = H14 at *
  refine ⟨S, rfl, ⟨_, SqL.of s14⟩, fun B hB => ?_⟩
  have nB : B ≠ p := nep W14.pu hB
  have hB0 : H B = none := W14.bu.free nB hB
  have tx : ∀ z : Str, z.length ≤ 900 → (Str.ofString ", " ++ z).length ≤ 902 := fun z hz => by
    rw [strLen_append, show (Str.ofString ", ").length = 2 from rfl]
    omega
  refine lc_list (K := K) (a := S) (xs := rs.map V.str) (fun i H3 => H3 B = some (.lst (((rs.take i).map (Str.ofString ", " ++ ·)).map V.str)) ∧ Same H14 H3 ∧ Wt CT p rl H H3)
    ⟨upd_same, Same.new (Same.refl _) hB, W14.new hB _⟩ (fun i H3 _ e => SqL.of (e.2.1 _ _ s14)) ?_ ?_
  · rintro i x H3 hx ⟨e1, e2, e3⟩
    rw [List.getElem?_map] at hx
    obtain ⟨y, hy, rfl⟩ := Option.map_eq_some_iff.mp hx
    have uy := ur y (List.mem_of_getElem? hy)
    refine ⟨rfl, tyes ?_⟩
    refine ⟨_, rfl, _, _, rfl, rfl, ?_, _, e1, ?_, ?_, ?_, ?_⟩
    · rw [show (Str.ofString ", ").length = 2 from rfl]
      exact Nat.le_trans (show _ ≤ 902 by omega) (by decide)
    · rw [List.length_map, List.length_map, List.length_take]
      exact Nat.lt_of_le_of_lt (show _ ≤ 2 by omega) (by decide)
    · rw [take_more hy, List.map_append, List.map_append]
      exact upd_same
    · intro c2 o2 h4
      exact (upd_ne (ne_of_none h4 hB)).trans (e2 _ _ h4)
    · exact e3.over e1 hB0 nB
  rintro H15 ⟨e1, e2, W15⟩
  rw [List.length_map, List.take_length] at e1
  have dk2 := e2 _ _ dk1
  have lsum : (((rs.map (Str.ofString ", " ++ ·)).map (·.length)).sum) ≤ 2000 := by
    have := sum_le (ys := rs.map (Str.ofString ", " ++ ·)) fun y hy => by
      obtain ⟨z, hz, rfl⟩ := List.mem_map.mp hy
      have := tx z (ur z hz).1
      omega
    rw [List.length_map] at this
    omega
  have ljoin : (Txt.join (Str.ofString "") (rs.map (Str.ofString ", " ++ ·))).length ≤ 2000 := by
    rw [join_eq]
    have := StrLaws.join_length_le (Str.ofString "") (rs.map (Str.ofString ", " ++ ·))
    rw [show (Str.ofString "").length = 0 from rfl] at this
    omega
  refine ⟨_, B, _, rfl, rfl, .inl (SqL.of e1), ?_, ?_⟩
  · show _ + _ * 0 ≤ _
    omega
  refine ⟨_, _, rfl, rfl, ?_, _, _, rfl, rfl, ?_, ?_⟩
  · rw [strLen_append, strLen_append, k0]
    exact Nat.le_trans (show _ ≤ 2909 by omega) (by decide)
  · rw [strLen_append, strLen_append, strLen_append, k0, kC]
    exact Nat.le_trans (show _ ≤ 2910 by omega) (by decide)
  rw [due_eq]
  have uw : Uni (workT tag (s0 :: rs)) := by
    unfold workT
    refine (((uni_low wt.low).app (uni_of _)).app ?_).app (uni_of _)
    rw [join_eq, join_two]
    exact u0.2.app (uni_cat _ fun y hy => by
      obtain ⟨z, hz, rfl⟩ := List.mem_map.mp hy
      exact (uni_of _).app (ur z hz).2)
  have lz1 : (s0 :: rs).length ≤ 1000 := by omega
  have lz2 : ∀ y ∈ s0 :: rs, y.length ≤ 1000 := fun y hy => by have := (kz y hy).1; omega
  refine ⟨fun σ H9 => ∃ (v : Option V), σ = [some (.ref p), some (.ref rl), some (.str one), some (.str tag), some (.str ⟨#[c]⟩), some (.int far), some (.ref D), v, none, none, none, none, none] ∧ Wt CT p rl H H9, ?_, ?_⟩
  · obtain ⟨dy, ha⟩ := W15.at_
    refine ⟨_, rfl, rl, dy, _, rfl, ha, rfl, _, rfl, _, rfl, D, _, rfl, .inl ⟨SqL.of dk2, fun y1 hy1 => ?_⟩⟩
    have V1 := W15.new hy1 (.tup ((s0 :: rs).map V.str))
    have dk3 := (upd_ne (o := .tup ((s0 :: rs).map V.str)) (ne_of_none dk2 hy1)).trans dk2
    refine ⟨rl, y1, tag, s0 :: rs, rfl, upd_same, by omega, lz1, lz2, ?_⟩
    obtain ⟨dy2, ha2⟩ := V1.at_
    refine ⟨_, rfl, rl, dy2, _, rfl, ha2, rfl, _, rfl, D, _, rfl, .inl ⟨SqL.of dk3, fun y2 hy2 => ?_⟩⟩
    have V2 := V1.new hy2 (.tup ((s0 :: rs).map V.str))
    refine ⟨_, rfl, rfl, rl, y2, tag, s0 :: rs, rfl, upd_same, by omega, lz1, lz2, ?_⟩
    refine ⟨lz (by simp), fun l1 hl1 => ?_⟩
    dsimp only [tNil]
    refine ⟨_, rfl, _, rfl, lz (by simp), fun l2 hl2 => ?_⟩
    refine same_texts [workT tag (s0 :: rs), workT tag (s0 :: rs)] ((upd_ne (ne_of_none upd_same hl2)).trans upd_same) upd_same ?_ ?_
    · intro z hz
      simp only [List.mem_cons, List.not_mem_nil, or_false, or_self] at hz
      rw [hz]
      exact uw
    refine ⟨_, rfl, iteF ?_⟩
    exact ⟨_, rfl, (V2.new hl1 _).new hl2 _⟩
  rintro σ H16 ⟨v16, rfl, W16⟩
  -- top, grain
  have pw6 : CPow 10 6 := ⟨by decide, by decide, by decide⟩
  refine ⟨_, rfl, _, _, rfl, rfl, pw6, p, _, rfl, W16.pu, by decide, by decide, fun top H17 t0 t1 pu17 b17 => ?_⟩
  have W17 := W16.step pu17 b17
  refine ⟨_, _, rfl, rfl, _, rfl, _, _, rfl, rfl, pw6, p, _, rfl, W17.pu, by decide, by decide, fun gr H18 g0 g1 pu18 b18 => ?_⟩
  have W18 := W17.step pu18 b18
  have t1' : top < 1000000 := t1
  have g1' : gr < 1000000 := g1
  refine ⟨_, _, rfl, ?_⟩
  -- others
  refine ⟨fun σ H9 => ∃ (v x y z : Option V) (O : Addr) (xs : List V), σ = [some (.ref p), some (.ref rl), some (.str one), some (.str tag), some (.str ⟨#[c]⟩), some (.int far), some (.ref D), v, x, y, some (.ref O), z, none] ∧
    H9 O = some (.lst xs) ∧ xs.length = 9 ∧ (∀ e ∈ xs, Oth CN H9 e) ∧ Wt CT p rl H H9, ?_, ?_⟩
  · refine ⟨_, rfl, _, rfl, fun nb db hnb hdb neb => ?_⟩
    refine ⟨nb, db, 2 + top, gr, rfl, upd_same, by omega, by omega, by omega, by omega, fun H19 n19 k19 => ⟨rfl, ?_⟩⟩
    have W19 := W18.same (Same.made hnb hdb fun c o e n => k19 c o n e)
    refine ⟨lz (by simp), fun y1 hy1 => ?_⟩
    have W20 := W19.new hy1 (.tup [])
    have q20 : (L2.upd H19 y1 (.tup [])) y1 = some (.tup []) := upd_same
    have sm20 : Same H19 (L2.upd H19 y1 (.tup [])) := Same.new (Same.refl _) hy1
    dsimp only [tNil]
    generalize L2.upd H19 y1 (.tup []) = H20 at *
    refine ⟨lz (by simp), fun y2 hy2 => ?_⟩
    have W21 := W20.new hy2 (.lst [])
    have q21 : (L2.upd H20 y2 (.lst [])) y2 = some (.lst []) := upd_same
    have sm21 : Same H20 (L2.upd H20 y2 (.lst [])) := Same.new (Same.refl _) hy2
    generalize L2.upd H20 y2 (.lst []) = H21 at *
    refine ⟨_, rfl, _, rfl, lz (by simp), fun O hO => ?_⟩
    refine ⟨_, _, _, _, O, _, rfl, upd_same, rfl, ?_, W21.new hO _⟩
    intro e he
    refine Oth.mono ?_ (Same.new (Same.refl _) hO)
    simp only [List.mem_cons, List.not_mem_nil, or_false] at he
    rcases he with rfl | rfl | rfl | rfl | rfl | rfl | rfl | rfl | rfl
    · exact Oth.mono (.inl ⟨nb, _, _, rfl, n19⟩) (sm20.trans sm21)
    · exact .inr ⟨_, .str _⟩
    · exact .inr ⟨_, .non⟩
    · exact .inr ⟨_, .tup (sm21 _ _ q20)⟩
    · exact .inr ⟨_, .int _⟩
    · exact .inr ⟨_, .bl _⟩
    · exact .inr ⟨_, .lst q21⟩
    · exact .inr ⟨_, .int _⟩
    · exact .inr ⟨_, .str _⟩
  rintro σ H22 ⟨v22, x22, y22, z22, O, xs, rfl, ok, xl, ox, W22⟩
  -- the others are not equal to it
  refine ⟨fun σ H9 => ∃ (v x y z u : Option V), σ = [some (.ref p), some (.ref rl), some (.str one), some (.str tag), some (.str ⟨#[c]⟩), some (.int far), some (.ref D), v, x, y, u, z, none] ∧ Wt CT p rl H H9, ?_, ?_⟩
  · refine ⟨_, rfl, O, rfl, ⟨_, SqL.of ok⟩, fun B hB => ?_⟩
    have nB : B ≠ p := nep W22.pu hB
    have hB0 : H B = none := W22.bu.free nB hB
    refine lc_list (K := K) (a := O) (xs := xs) (fun i H3 => H3 B = some (.lst (List.replicate i (.bl false))) ∧ Same H22 H3 ∧ Wt CT p rl H H3)
      ⟨upd_same, Same.new (Same.refl _) hB, W22.new hB _⟩ (fun i H3 _ e => SqL.of (e.2.1 _ _ ok)) ?_ ?_
    · rintro i x H3 hx3 ⟨e1, e2, e3⟩
      refine ⟨rfl, tyes ?_⟩
      have hi : i < 9 := by
        rcases Nat.lt_or_ge i xs.length with h | h
        · omega
        · rw [List.getElem?_eq_none h] at hx3
          cases hx3
      have up := e3.over (ys := List.replicate (i + 1) (.bl false)) e1 hB0 nB
      obtain ⟨T3, h1, h2, h3⟩ := ((ox x (List.mem_of_getElem? hx3)).mono e2).eq T
      obtain ⟨d1, ha3⟩ := e3.at_
      refine ⟨_, rfl, _, rfl, rl, d1, _, T3, rfl, ha3, h1, h2, rl, x, rfl, T3, false, h1, h3, List.replicate i (.bl false), e1, ?_, ?_, ?_, ?_⟩
      · rw [List.length_replicate]
        exact Nat.lt_of_lt_of_le hi (by decide)
      · rw [List.replicate_succ']
        exact upd_same
      · intro b2 o2 h4
        exact (upd_ne (ne_of_none h4 hB)).trans (e2 _ _ h4)
      · rw [List.replicate_succ'] at up
        exact up
    rintro H23 ⟨e1, e2, W23⟩
    rw [xl] at e1
    refine ⟨lz (by simp), fun y hy => ?_⟩
    refine ⟨y, 9, _, rfl, rfl, upd_same, by decide, by decide, lz (by simp), fun z hz => ?_⟩
    have dd := (upd_ne (o := .lst [V.bl false]) (ne_of_none e1 hy)).trans e1
    have ok2 := (upd_ne (o := .lst [V.bl false]) (ne_of_none (e2 _ _ ok) hy)).trans (e2 _ _ ok)
    have V2 := (W23.new hy (.lst [.bl false])).new hz (.lst (List.replicate (9 : Int).toNat [V.bl false]).flatten)
    have dd2 := (upd_ne (o := .lst (List.replicate (9 : Int).toNat [V.bl false]).flatten) (ne_of_none dd hz)).trans dd
    have ok3 := (upd_ne (o := .lst (List.replicate (9 : Int).toNat [V.bl false]).flatten) (ne_of_none ok2 hz)).trans ok2
    have sm3 : Same H22 (L2.upd (L2.upd H23 y (.lst [.bl false])) z (.lst (List.replicate (9 : Int).toNat [V.bl false]).flatten)) := (Same.new (Same.new e2 hy) hz)
    refine ⟨_, _, .lst (SqL.of dd2) (dpB false 9), .lst (SqL.of upd_same) (dpB false 9), rfl, rfl, ?_⟩
    generalize L2.upd (L2.upd H23 y (.lst [.bl false])) z (.lst (List.replicate (9 : Int).toNat [V.bl false]).flatten) = H24 at *
    refine ⟨_, rfl, ite2 (fun z => absurd z (by decide +kernel)) (fun _ => ?_)⟩
    refine ⟨_, rfl, O, rfl, ⟨_, SqL.of ok3⟩, fun B2 hB2 => ?_⟩
    have nB2 : B2 ≠ p := nep V2.pu hB2
    have hB20 : H B2 = none := V2.bu.free nB2 hB2
    refine lc_list (K := K) (a := O) (xs := xs) (fun i H3 => H3 B2 = some (.lst (List.replicate i (.bl true))) ∧ Same H24 H3 ∧ Wt CT p rl H H3)
      ⟨upd_same, Same.new (Same.refl _) hB2, V2.new hB2 _⟩ (fun i H3 _ e => SqL.of (e.2.1 _ _ ok3)) ?_ ?_
    · rintro i x H3 hx3 ⟨e1, e4, e3⟩
      refine ⟨rfl, tyes ?_⟩
      have hi : i < 9 := by
        rcases Nat.lt_or_ge i xs.length with h | h
        · omega
        · rw [List.getElem?_eq_none h] at hx3
          cases hx3
      have up := e3.over (ys := List.replicate (i + 1) (.bl true)) e1 hB20 nB2
      refine ⟨_, rfl, _, rfl, Oth.ne T ((ox x (List.mem_of_getElem? hx3)).mono (sm3.trans e4)) e3.at_ ⟨List.replicate i (.bl true), e1, ?_, ?_, ?_, ?_⟩⟩
      · rw [List.length_replicate]
        exact Nat.lt_of_lt_of_le hi (by decide)
      · rw [List.replicate_succ']
        exact upd_same
      · intro b2 o2 h4
        exact (upd_ne (ne_of_none h4 hB2)).trans (e4 _ _ h4)
      · rw [List.replicate_succ'] at up
        exact up
    rintro H25 ⟨f1, f2, W25⟩
    rw [xl] at f1
    refine ⟨lz (by simp), fun y3 hy3 => ?_⟩
    refine ⟨y3, 9, _, rfl, rfl, upd_same, by decide, by decide, lz (by simp), fun z3 hz3 => ?_⟩
    have gg := (upd_ne (o := .lst [V.bl true]) (ne_of_none f1 hy3)).trans f1
    have V4 := (W25.new hy3 (.lst [.bl true])).new hz3 (.lst (List.replicate (9 : Int).toNat [V.bl true]).flatten)
    have gg2 := (upd_ne (o := .lst (List.replicate (9 : Int).toNat [V.bl true]).flatten) (ne_of_none gg hz3)).trans gg
    refine ⟨_, _, .lst (SqL.of gg2) (dpB true 9), .lst (SqL.of upd_same) (dpB true 9), rfl, rfl, ?_⟩
    refine ⟨_, rfl, ite2 (fun z => absurd z (by decide +kernel)) (fun _ => ?_)⟩
    exact ⟨_, _, _, _, _, rfl, V4⟩
  rintro σ H29 ⟨v9, x9, y9, z9, w9, rfl, W29⟩
  obtain ⟨dr, hr9⟩ := W29.at_
  refine ⟨_, rfl, rl, dr, _, rfl, hr9, rl, rfl, _, rfl, rfl, _, rfl, ite2 (fun _ => ?_) (fun z => absurd (decide_eq_true rfl) z)⟩
  refine ⟨_, rfl, fun n1 d1 hn1 hd1 ne1 => ?_⟩
  have W30 := (W29.new hd1 (.own n1)).new (x := n1) ((upd_ne ne1.symm).trans hn1) (.ins CT d1 [])
  have h30 : (L2.upd (L2.upd H29 d1 (.own n1)) n1 (.ins CT d1 [])) n1 = some (.ins CT d1 []) := upd_same
  generalize L2.upd (L2.upd H29 d1 (.own n1)) n1 (.ins CT d1 []) = H30 at *
  obtain ⟨dr2, hr10⟩ := W30.at_
  refine ⟨rl, dr2, _, .ref CT, rfl, hr10, T.ct.ty h30, T.fTT, rl, .ref n1, rfl, .ref CT, true, T.ct.ty h30, T.kTT, _, rfl, iteT ?_⟩
  refine ⟨_, rfl, fun n2 d2 hn2 hd2 ne2 => ?_⟩
  have W31 := (W30.new hd2 (.own n2)).new (x := n2) ((upd_ne ne2.symm).trans hn2) (.ins CT d2 [])
  have h31 : (L2.upd (L2.upd H30 d2 (.own n2)) n2 (.ins CT d2 [])) n2 = some (.ins CT d2 []) := upd_same
  generalize L2.upd (L2.upd H30 d2 (.own n2)) n2 (.ins CT d2 []) = H31 at *
  obtain ⟨dr3, hr11⟩ := W31.at_
  refine ⟨rl, dr3, _, .ref CT, rfl, hr11, T.ct.ty h31, T.fTT, rl, .ref n2, rfl, .ref CT, true, T.ct.ty h31, T.kTT, _, rfl, ?_⟩
  refine ⟨_, rfl, _, rfl, iteT ?_⟩
  exact ⟨_, rfl, rl, dr3, _, rfl, hr11, q _ W31.bu⟩
end
end Lk
set_option Elab.async false
set_option linter.all false
namespace Lk
open PySem PySem.Spec PyProof.Rows L2 G TL
open C8 (pss_cut tCut)
structure TxA (K : PySem.W.Frag) (mg : Str → Option Value) (CT : Addr) : Prop where
  cl_Texts : Cls K CT
  mk_Texts : Mk0 K mg "Texts" CT
  b_len : mg "len" = none
  b_min : mg "min" = none
  b_max : mg "max" = none
  b_range : mg "range" = none
  b_repr : mg "repr" = none
  b_all : mg "all" = none
def toldZ : List Str := [Str.ofString "?r", Str.ofString "A[-3]", Str.ofString "f(a, g(b))", Str.ofString "Z[0]"]
theorem rd_told {K : PySem.W.Frag} {H : Hp} {a : Addr} {Q : VK} (h : H a = some (.lst (toldZ.map V.str))) (q : Q (.str (PyData.list (toldZ.map PyData.str)).shown) H) : rReprD K [.ref a] H Q :=
  ⟨_, .list (toldZ.map .str), rfl, .lst (SqL.of h) (dpS toldZ), by decide +kernel, by decide +kernel, by decide +kernel, by decide +kernel, q⟩
def spLaw (K : PySem.W.Frag) : Sp := fun vs H Q _ => ∃ (a : Addr) (ns : List Int), vs = [.ref a] ∧ SqL K H a (ns.map V.int) ∧ ns.length ≤ 63 ∧ ∀ H', Q (.bl true) H'
section
variable {P : Program} {w : World} {K : PySem.W.Frag} {mg : Str → Option Value} {base : Heap} {CT : Addr}
theorem ok_law {f : Addr} {fd : FuncData} (F : Fun K "law" "law" s_law f fd) (T : TxA K mg CT)
    (c__law_purse : Cal P w K mg base "_law_purse" 1 ["cells", "k"] (spPurse K)) (c__law_right : Cal P w K mg base "_law_right" 6 ["purse"] spRight)
    (m_Texts_known : MethG P w K mg base CT "known" 1 ["self", "name"] spWKnown) (m_Texts_cell : MethG P w K mg base CT "cell" 2 ["self", "array", "index"] spWCell)
    (m_Texts_work : MethG P w K mg base CT "work" 1 ["self", "word", "arguments"] spWWork) :
    FG P w K mg base CX0 8 f fd ["cells"] (spLaw K) := by
  refine fun_okG F sc_law (fun vs H Q E h => ?_) (fun cdv A outer s H vs Q E gd hr h => ?_)
  · obtain ⟨_, _, rfl, _⟩ := h
    rfl
  have nd := sc_law.nd
  obtain ⟨a, ns, rfl, hS, hlen, q⟩ := h
  -- cells 0c, told 1, k 2
  refine ⟨_, (pss_cons (ps_set (i := 1) nd rfl (Or.inl rfl) (pe_lst (pa_cons (pe_mg T.cl_Texts m_Texts_known gd (hr.mono (by decide)) (pe_mk0 T.mk_Texts (by rfl)) (pa_cons pe_str pa_nil)) (pa_cons (pe_mg T.cl_Texts m_Texts_cell gd (hr.mono (by decide)) (pe_mk0 T.mk_Texts (by rfl)) (pa_cons pe_str (pa_cons (pe_un un_neg pe_int) pa_nil))) (pa_cons (pe_mg T.cl_Texts m_Texts_work gd (hr.mono (by decide)) (pe_mk0 T.mk_Texts (by rfl)) (pa_cons pe_str (pa_cons (pe_tup (pa_cons pe_str (pa_cons pe_str pa_nil))) pa_nil))) (pa_cons (pe_mg T.cl_Texts m_Texts_cell gd (hr.mono (by decide)) (pe_mk0 T.mk_Texts (by rfl)) (pa_cons pe_str (pa_cons pe_int pa_nil))) pa_nil))))))
      (pss_cut (ps_if (pt_neS (pe_callB (call_reprD gd hr) (by rfl) T.b_repr (by decide +kernel) (pa_cons (pv 1) pa_nil)) (pe_callB (call_reprD gd hr) (by rfl) T.b_repr (by decide +kernel) (pa_cons (pe_lst (pa_cons pe_str (pa_cons pe_str (pa_cons pe_str (pa_cons pe_str pa_nil))))) pa_nil)))
        (pss_one (ps_ret pe_bl))
        pss_nil)
      (pss_one (ps_ret (pe_callB (cr_all rfl) (by rfl) T.b_all (by decide +kernel) (pa_cons (pe_lc (own := [("k", 2)]) (g := gName 2) (by rfl) nd (pi_range1 (by rfl) T.b_range (pa_cons (pe_callB (call_max2 rfl) (by rfl) T.b_max (by decide +kernel) (pa_cons pe_int (pa_cons (pe_callB (call_min2 rfl) (by rfl) T.b_min (by decide +kernel) (pa_cons (pe_callB call_len_seq (by rfl) T.b_len (by decide +kernel) (pa_cons (pv 0) pa_nil)) (pa_cons pe_int pa_nil))) pa_nil))) pa_nil)) (blkOk_by (own := [("k", 2)]) (N := ["cells", "told", "k"]) (sc := defScope s_law) (by decide +kernel)) (fun _ _ _ _ _ => pg_name (i := 2) nd rfl (Or.inl rfl)) (fun _ _ _ _ _ => pts_nil) (fun _ _ _ _ _ => (pe_cg c__law_right gd (hr.mono (by decide)) (by rfl) (pa_cons (pe_cg c__law_purse gd (hr.mono (by decide)) (by rfl) (pa_cons (pv 0) (pa_cons (pv 2) pa_nil))) pa_nil)))) pa_nil)))))), ?_⟩
  refine fun x1 d1 hx1 hd1 ne1 => ⟨x1, d1, [], rfl, upd_same, rfl, x1, _, rfl, ?_⟩
  have s1 : Same H (L2.upd (L2.upd H d1 (.own x1)) x1 (.ins CT d1 [])) := Same.new (Same.new (Same.refl H) hd1) ((upd_ne ne1.symm).trans hx1)
  generalize L2.upd (L2.upd H d1 (.own x1)) x1 (.ins CT d1 []) = H1 at *
  refine fun x2 d2 hx2 hd2 ne2 => ⟨x2, d2, [], rfl, upd_same, rfl, _, rfl, x2, _, _, rfl, by decide +kernel, by decide, ?_⟩
  have s2 : Same H (L2.upd (L2.upd H1 d2 (.own x2)) x2 (.ins CT d2 [])) := Same.new (Same.new s1 hd2) ((upd_ne ne2.symm).trans hx2)
  generalize L2.upd (L2.upd H1 d2 (.own x2)) x2 (.ins CT d2 []) = H2 at *
  refine fun x3 d3 hx3 hd3 ne3 => ⟨x3, d3, [], rfl, upd_same, rfl, lz (by simp), fun u hu => ⟨x3, u, _, [Str.ofString "a", Str.ofString "g(b)"], rfl, upd_same, by decide +kernel, by decide, by decide +kernel, ?_⟩⟩
  have s3 : Same H (L2.upd (L2.upd H2 d3 (.own x3)) x3 (.ins CT d3 [])) := Same.new (Same.new s2 hd3) ((upd_ne ne3.symm).trans hx3)
  generalize L2.upd (L2.upd H2 d3 (.own x3)) x3 (.ins CT d3 []) = H3 at *
  have s4 : Same H (L2.upd H3 u (.tup [V.str (Str.ofString "a"), V.str (Str.ofString "g(b)")])) := Same.new s3 hu
  dsimp only [tNil]
  generalize L2.upd H3 u (.tup [V.str (Str.ofString "a"), V.str (Str.ofString "g(b)")]) = H4 at *
  refine fun x5 d5 hx5 hd5 ne5 => ⟨x5, d5, [], rfl, upd_same, rfl, x5, _, _, rfl, by decide +kernel, by decide, ?_⟩
  have s5 : Same H (L2.upd (L2.upd H4 d5 (.own x5)) x5 (.ins CT d5 [])) := Same.new (Same.new s4 hd5) ((upd_ne ne5.symm).trans hx5)
  generalize L2.upd (L2.upd H4 d5 (.own x5)) x5 (.ins CT d5 []) = H5 at *
  refine ⟨lz (by simp), fun l hl => ?_⟩
  rw [show cellT (Str.ofString "A") (-3) = Str.ofString "A[-3]" by decide +kernel, show workT (Str.ofString "f") [Str.ofString "a", Str.ofString "g(b)"] = Str.ofString "f(a, g(b))" by decide +kernel, show cellT (Str.ofString "Z") 0 = Str.ofString "Z[0]" by decide +kernel]
  have l6 : (L2.upd H5 l (.lst [.str (Str.ofString "?r"), .str (Str.ofString "A[-3]"), .str (Str.ofString "f(a, g(b))"), .str (Str.ofString "Z[0]")])) l = some (.lst (toldZ.map V.str)) := upd_same
  have b6 : Same H (L2.upd H5 l (.lst [.str (Str.ofString "?r"), .str (Str.ofString "A[-3]"), .str (Str.ofString "f(a, g(b))"), .str (Str.ofString "Z[0]")])) := Same.new s5 hl
  generalize L2.upd H5 l (.lst [.str (Str.ofString "?r"), .str (Str.ofString "A[-3]"), .str (Str.ofString "f(a, g(b))"), .str (Str.ofString "Z[0]")]) = H6 at *
  refine ⟨fun σ H7 => σ = [some (.ref a), some (.ref l), none] ∧ Same H H7, ?_, ?_⟩
  · refine ⟨_, rfl, ?_⟩
    dsimp only [tNil]
    refine rd_told l6 ?_
    refine ⟨lz (by simp), fun l3 hl3 => ?_⟩
    dsimp only [tNil]
    refine rd_told upd_same ?_
    refine ⟨rfl, _, rfl, iteNS rfl ?_⟩
    exact ⟨rfl, Same.new b6 hl3⟩
  rintro σ H7 ⟨rfl, b6⟩
  -- all([..])
  refine ⟨_, rfl, a, _, rfl, .inl (b6.seq hS), _, _, rfl, _, _, rfl, ?_⟩
  obtain ⟨n, hn, hn2⟩ : ∃ n : Nat, (if (if (8 : Int) < ((ns.map V.int).length : Int) then (8 : Int) else ((ns.map V.int).length : Int)) > 2 then (if (8 : Int) < ((ns.map V.int).length : Int) then (8 : Int) else ((ns.map V.int).length : Int)) else 2) = (n : Int) ∧ n ≤ 8 := by
    rw [List.length_map]
    split <;> split <;> first | exact ⟨8, rfl, by decide⟩ | exact ⟨2, rfl, by decide⟩ | exact ⟨ns.length, rfl, by omega⟩
  refine ⟨(n : Int), congrArg (fun z => [V.int z]) hn, by omega, by omega, fun D hD => ?_⟩
  have hD0 : H D = none := b6.free hD
  refine lc_range (lo := 0) (n := (n : Int).toNat) (fun i H3 => H3 D = some (.lst ((List.replicate i true).map V.bl)) ∧ Same H H3) ⟨upd_same, Same.new b6 hD⟩ ?_ ?_
  · rintro i H3 hi ⟨e1, e2⟩
    refine ⟨rfl, tyes ?_⟩
    refine ⟨_, rfl, _, rfl, a, ns, i, ?_, e2.seq hS, by omega, fun p H4 hp s4 pu4 => ?_⟩
    · show [V.ref a, V.int (0 + (i : Int))] = _
      rw [Int.zero_add]
    have npD : D ≠ p := fun z => by
      rw [← z, e1] at hp
      cases hp
    refine ⟨p, rfl, pu4, fun H5 b5 => ?_⟩
    have e5 := b5 _ _ npD (s4 _ _ e1)
    refine ⟨_, e5, ?_, ?_, ?_⟩
    · rw [List.length_map, List.length_replicate]
      exact Nat.lt_of_lt_of_le hi (lz (by omega))
    · rw [List.replicate_succ', List.map_append]
      exact upd_same
    · intro c o e
      rw [upd_ne (ne_of_none e hD0)]
      exact b5 _ _ (ne_of_none (e2 _ _ e) hp) (s4 _ _ (e2 _ _ e))
  · rintro H3 ⟨e1, e2⟩
    refine ⟨D, _, rfl, SqL.of e1, ?_⟩
    rw [show (List.replicate (n : Int).toNat true).all id = true by simp]
    exact q _
end
end Lk
set_option Elab.async false
set_option linter.all false
namespace G
open PySem PySem.Spec PyProof.Rows L2
section
variable {P : Program} {w : World} {K : PySem.W.Frag} {mg mb : Str → Option Value} {k : Nat} {fa a : Addr} {fd : FuncData} {x : Str} {sp : Sp} {s1 : Shared} {vs : List Value} {ns : List Int} {H : Hp}
/-- what the caller of the law stands on, over a heap H that tracks the script or nothing -/
structure Stand (K : PySem.W.Frag) (mg mb : Str → Option Value) (s1 : Shared) (a : Addr) (vs : List Value) : Prop where
  kin : K.In s1.heap
  glo : s1.heap.Ns mainGlobals mg
  blt : s1.heap.Ns builtinsNs mb
  all : ∀ x : Str, x ≠ "__name__" → mb x = bootBuiltins x
  lim : s1.heap.NoLimit
  gen : s1.gens = #[]
  obj : s1.heap.get? a = some { cls := .type "list", data := .seq vs.toArray }
theorem Stand.env (S : Stand K mg mb s1 a vs) (h1 : ∀ b u, H b = some u → b = a) (h2 : ∀ u, H a = some u → K.lookup a = none) (h3 : HOk P w H s1.heap) :
    (K.In (hidT s1.heap H) ∧ (hidT s1.heap H).Ns mainGlobals mg) ∧ Env0 P w K mg (hidT s1.heap H) callerA [] s1 H := by
  have free : ∀ b, (b = a → ∀ u, H a = some u → False) → H b = none := fun b n => by
    cases q : H b with
    | none => rfl
    | some u =>
      obtain rfl := h1 b u q
      exact (n rfl u q).elim
  have ki : K.In (hidT s1.heap H) := fun b o e => hidT_get (S.kin b o e) (free b fun z u q => by
    rw [z, h2 u q] at e
    cases e)
  have maps : ∀ {b : Addr} {m : Str → Option Value}, s1.heap.Ns b m → (hidT s1.heap H).Ns b m := fun {b m} n => by
    obtain ⟨o, es, ep, e, d, r⟩ := n
    refine ⟨o, es, ep, hidT_get e (free b fun z u q => ?_), d, r⟩
    rw [z, S.obj] at e
    obtain rfl := Option.some.inj e
    cases (show Data.seq vs.toArray _ = Data.dict es ep from d)
  have md : Mod K mg (hidT s1.heap H) := ⟨ki, maps S.glo, ⟨mb, maps S.blt, S.all⟩, by
    obtain ⟨mc, q1, q2⟩ := S.lim
    exact ⟨mc, maps q1, q2⟩⟩
  exact ⟨⟨ki, maps S.glo⟩, rfl, md, fun b o e => of_hidT e, Nat.le_of_eq (hidT_size _ _), trivial, (fun b hb => by cases hb), h3, .of_eq S.gen⟩
/-- the end -/
theorem law_end {r : Result} {s2 : Shared} (hO : Only H) (hok : HOk P w H s1.heap) (h : CR CX0 [] P w H s1 (fun v _ => v = .bl true) E0 r s2) :
    r = .ok (.ret (.bool true)) ∧ OldK s1.heap s2.heap ∧ s2.os = s1.os ∧ AllBare s2.gens := by
  match r, h with
  | .ok (.ret u), h =>
    obtain ⟨v, H2, os, bare, un, hok2, rv, (q : v = .bl true)⟩ := h
    subst q
    obtain rfl : u = Value.bool true := rv
    refine ⟨rfl, OldK.of_keep ?_, os, bare⟩
    intro b o e
    rcases hO b with z | ⟨ob, xs, z⟩
    · exact un.keep b o e z (fun z => by cases z) (by simp)
    · have e1 := (hok b _ z).1
      have e2 := (hok2 b _ (un.frzs b ob _ z)).1
      rw [e] at e1
      obtain rfl := Option.some.inj e1
      exact e2
/-- law(script), from its def's promise where no repr is under way -/
theorem law_go (S : Stand K mg mb s1 a vs) (hi : IntsAre vs ns) (hl : ns.length ≤ sizeLine) (hr : Room k callerA)
    (F : ∀ base : Heap, K.In base → base.Ns mainGlobals mg → FG P w K mg base CX0 k fa fd [x] sp) (hb : ∀ (s : Shared) (u : Value), BindsTo s fd ⟨[u], []⟩ [(x, u)])
    (hs : ∀ H : Hp, Only H → SqL K H a (ns.map V.int) → sp [.ref a] H (fun v _ => v = .bl true) E0) :
    codeAny (model P w) callerA (.call (.ref fa) ⟨[.ref a], []⟩) (fun r s2 => r = .ok (.ret (.bool true)) ∧ OldK s1.heap s2.heap ∧ s2.os = s1.os ∧ AllBare s2.gens) s1 := by
  have rv := vals_ints hi
  have ln := hi.length
  have run : ∀ H : Hp, Only H → SqL K H a (ns.map V.int) → HOk P w H s1.heap → (∀ b u, H b = some u → b = a) → (∀ u, H a = some u → K.lookup a = none) →
      codeAny (model P w) callerA (.call (.ref fa) ⟨[.ref a], []⟩) (fun r s2 => r = .ok (.ret (.bool true)) ∧ OldK s1.heap s2.heap ∧ s2.os = s1.os ∧ AllBare s2.gens) s1 := by
    intro H o q hok h1 h2
    obtain ⟨⟨g1, g2⟩, e0⟩ := S.env (P := P) (w := w) h1 h2 hok
    exact codeAny_mono ((F _ g1 g2).go callerA rfl [] s1 H ⟨[.ref a], []⟩ [.ref a] [.ref a] _ _ hr e0 (hb s1 (.ref a)) (.cons rfl .nil) (hs H o q)) fun r s2 h => law_end o hok h
  cases hk : K.lookup a with
  | some o =>
    have e := S.kin a o hk
    rw [S.obj] at e
    obtain rfl := Option.some.inj e
    refine run (fun _ => none) (fun _ => .inl rfl) (.inr ⟨_, vs.toArray, _, hk, rfl, rfl, rfl, ?_, ?_⟩) ?_ ?_ ?_
    · rw [List.size_toArray, ln]
      exact hl
    · simpa using rv
    · intro b u z
      cases (show (none : Option HO) = some u from z)
    · intro b u z
      cases (show (none : Option HO) = some u from z)
    · intro u z
      cases (show (none : Option HO) = some u from z)
  | none =>
    let T : HO := .frz { cls := .type "list", data := .seq vs.toArray } (.lst (ns.map V.int))
    have at_ : ∀ {b : Addr} {u : HO}, (if b = a then some T else none) = some u → b = a ∧ u = T := fun {b u} z => by
      by_cases q : b = a
      · rw [if_pos q] at z
        exact ⟨q, (Option.some.inj z).symm⟩
      · rw [if_neg q] at z
        cases z
    refine run (fun b => if b = a then some T else none) ?_ (.inl (.inr ⟨_, if_pos rfl⟩)) ?_ (fun b u z => (at_ z).1) fun _ _ => hk
    · intro b
      by_cases q : b = a
      · exact .inr ⟨_, _, if_pos q⟩
      · exact .inl (if_neg q)
    · intro b u z
      obtain ⟨rfl, rfl⟩ := at_ z
      exact ⟨S.obj, by rw [List.length_map]; exact hl, vs, _, rv, S.obj⟩
end
/-- the goal that k_head leaves -/
theorem walk_g {l : PySem.W.OpenLaw} {n k : Nat} {q : Program} {loose : List Str} {XP : (Str → Option Value) → Heap → Prop} {YP : World → Heap → Prop} {d : DefRec} {K : Params → PySem.W.Frag} {sp : PySem.W.Frag → Sp} {x : Str}
    (hn : l.most = some n) (hn2 : n ≤ sizeLine) (hdf : d.params.defaults = []) (hr : Room k callerA) (hY : ∀ (w : World) (h : Heap), YP w h → (K w.params).In h)
    (F : ∀ (w : World) (mg : Str → Option Value) (fa : Addr) (h : Heap), (K w.params).In h → h.Ns mainGlobals mg → mg d.name = some (.ref fa) → ∃ fd : FuncData, (∀ (s : Shared) (u : Value), BindsTo s fd ⟨[u], []⟩ [(x, u)]) ∧
      ∀ base : Heap, (K w.params).In base → base.Ns mainGlobals mg → FG l.prog w (K w.params) mg base CX0 k fa fd [x] (sp (K w.params)))
    (hsp : ∀ (K : PySem.W.Frag) (H : Hp) (a : Addr) (ns : List Int), ns.length ≤ n → SqL K H a (ns.map V.int) → sp K [.ref a] H (fun v _ => v = .bl true) E0) :
    PySem.W.WalkO q loose XP YP l.row.toRowW d [] (fun f vs => PySem.call f vs) := by
  refine Att.attach_call hn hdf ?_
  intro w s0 s1 mg mb fa o pm cd doc a vs ns Gr Y _ _ _ hmg hobj hi hlen hg
  have kx := hY w _ Y
  obtain ⟨fd, hb, hF⟩ := F w mg fa _ kx Gr.T.g hmg
  exact law_go ⟨kx, Gr.T.g, Gr.T.b, Gr.T.builtins, Gr.T.nolimit, hg, hobj⟩ hi (Nat.le_trans hlen hn2) hr hF hb fun H _ q => hsp _ H a ns hlen q
/-! ### isinstance facts, from what the written part answers -/
theorem kit_self {K : PySem.W.Frag} {t : Value} (h : (t == t) = true) : PySem.W.kitOne K t t = some true := by
  unfold PySem.W.kitOne
  rw [if_pos h]
theorem kit_ref {K : PySem.W.Frag} {t : Value} {C : Addr} {b : Bool} (h1 : PySem.W.isClsIn K C = true) (h2 : PySem.W.typeIn K (.ref C) = some (.type "type")) (ne : (t == Value.ref C) = false) (h : PySem.W.subIn K t (.ref C) = some b) :
    PySem.W.kitOne K t (.ref C) = some b := by
  have e : PySem.W.kitOne K t (.ref C) = if ((PySem.W.clsIn K C).isSome && PySem.W.typeIn K (.ref C) == some (.type "type")) = true then PySem.W.subIn K t (.ref C) else none := by
    unfold PySem.W.kitOne
    rw [ne]
    rfl
  have h1' : (PySem.W.clsIn K C).isSome = true := h1
  rw [e, h1', h2, h, if_pos (by decide)]
theorem ref_ne {C D : Addr} (h : D ≠ C) : (Value.ref D == Value.ref C) = false := by
  cases e : (Value.ref D == Value.ref C) with
  | false => rfl
  | true => exact absurd (Value.ref.inj (beq_iff_eq.mp e)) h
end G
set_option Elab.async false
set_option linter.all false
namespace Lk
open PySem PySem.Spec PyProof.Rows L2 G TL
theorem all_mk {l : PySem.W.OpenLaw} {w : World} {K : PySem.W.Frag} {h : Heap} {mg : Str → Option Value} {fa : Addr} (X : K.In h) (G : h.Ns mainGlobals mg) (hfa : mg "law" = some (.ref fa))
    {CN : Addr}
    {CT : Addr}
    {f0 : Addr} {od0 an0 : Option Addr} {sl0 : Array (Option Value)} {oc0 kV0 dc0 pm0 cd0 ct0 : Value}
    {f1 : Addr} {od1 an1 : Option Addr} {sl1 : Array (Option Value)} {oc1 kV1 dc1 pm1 cd1 ct1 : Value}
    {f2 : Addr} {od2 an2 : Option Addr} {sl2 : Array (Option Value)} {oc2 kV2 dc2 pm2 cd2 ct2 : Value}
    {f3 : Addr} {od3 an3 : Option Addr} {sl3 : Array (Option Value)} {oc3 kV3 dc3 pm3 cd3 ct3 : Value}
    {f4 : Addr} {od4 an4 : Option Addr} {sl4 : Array (Option Value)} {oc4 kV4 dc4 pm4 cd4 ct4 : Value}
    {f5 : Addr} {od5 an5 : Option Addr} {sl5 : Array (Option Value)} {oc5 kV5 dc5 pm5 cd5 ct5 : Value}
    {f6 : Addr} {od6 an6 : Option Addr} {sl6 : Array (Option Value)} {oc6 kV6 dc6 pm6 cd6 ct6 : Value}
    {f7 : Addr} {od7 an7 : Option Addr} {sl7 : Array (Option Value)} {oc7 kV7 dc7 pm7 cd7 ct7 : Value}
    {f8 : Addr} {od8 an8 : Option Addr} {sl8 : Array (Option Value)} {oc8 kV8 dc8 pm8 cd8 ct8 : Value}
    {f9 : Addr} {od9 an9 : Option Addr} {sl9 : Array (Option Value)} {oc9 kV9 dc9 pm9 cd9 ct9 : Value}
    {f10 : Addr} {od10 an10 : Option Addr} {sl10 : Array (Option Value)} {oc10 kV10 dc10 pm10 cd10 ct10 : Value}
    {f11 : Addr} {od11 an11 : Option Addr} {sl11 : Array (Option Value)} {oc11 kV11 dc11 pm11 cd11 ct11 : Value}
    {f12 : Addr} {od12 an12 : Option Addr} {sl12 : Array (Option Value)} {oc12 kV12 dc12 pm12 cd12 ct12 : Value}
    {f13 : Addr} {od13 an13 : Option Addr} {sl13 : Array (Option Value)} {oc13 kV13 dc13 pm13 cd13 ct13 : Value}
    {f14 : Addr} {od14 an14 : Option Addr} {sl14 : Array (Option Value)} {oc14 kV14 dc14 pm14 cd14 ct14 : Value}
    {f15 : Addr} {od15 an15 : Option Addr} {sl15 : Array (Option Value)} {oc15 kV15 dc15 pm15 cd15 ct15 : Value}
    {f16 : Addr} {od16 an16 : Option Addr} {sl16 : Array (Option Value)} {oc16 kV16 dc16 pm16 cd16 ct16 : Value}
    {f17 : Addr} {od17 an17 : Option Addr} {sl17 : Array (Option Value)} {oc17 kV17 dc17 pm17 cd17 ct17 : Value}
    {t_LEAST_MODULUS : _}
    {t_MOST_MODULUS : _}
    {t_LEAST_SEED : _}
    {t_MOST_SEED : _}
    (nCN : PySem.W.nsIn K mainGlobals "Numbers" = some (some (.ref CN)))
    (pgCN : PySem.W.plainGet K CN Str.empty = true)
    (hdCN : PySem.W.hasDictIn K CN = true)
    (poCN : PySem.W.plainOver K CN = true)
    (saCN : PySem.W.findIn K (.ref CN) "__setattr__" = some (some (.builtin "object.__setattr__")))
    (mkCN : PySem.W.makesIn K CN = true)
    (kcCN : PySem.W.keepIn K (.ref CN) = true)
    (nCT : PySem.W.nsIn K mainGlobals "Texts" = some (some (.ref CT)))
    (pgCT : PySem.W.plainGet K CT Str.empty = true)
    (hdCT : PySem.W.hasDictIn K CT = true)
    (poCT : PySem.W.plainOver K CT = true)
    (saCT : PySem.W.findIn K (.ref CT) "__setattr__" = some (some (.builtin "object.__setattr__")))
    (mkCT : PySem.W.makesIn K CT = true)
    (kcCT : PySem.W.keepIn K (.ref CT) = true)
    (a0 : PySem.W.nsIn K mainGlobals "_law_purse" = some (some (.ref f0)))
    (l0 : K.lookup f0 = some ⟨oc0, od0, .func (PySem.W.fnOf "_law_purse" "_law_purse" (defArgs s__law_purse) (defBody s__law_purse) (defScope s__law_purse) .none kV0 dc0 pm0 an0 cd0 ct0), sl0⟩)
    (c0 : PySem.W.codeIn K cd0 "_law_purse" = true)
    (k0 : PySem.W.keepIn K (.ref f0) = true)
    (a1 : PySem.W.nsIn K mainGlobals "_law_draw" = some (some (.ref f1)))
    (l1 : K.lookup f1 = some ⟨oc1, od1, .func (PySem.W.fnOf "_law_draw" "_law_draw" (defArgs s__law_draw) (defBody s__law_draw) (defScope s__law_draw) .none kV1 dc1 pm1 an1 cd1 ct1), sl1⟩)
    (c1 : PySem.W.codeIn K cd1 "_law_draw" = true)
    (k1 : PySem.W.keepIn K (.ref f1) = true)
    (a2 : PySem.W.nsIn K mainGlobals "_law_signs" = some (some (.ref f2)))
    (l2 : K.lookup f2 = some ⟨oc2, od2, .func (PySem.W.fnOf "_law_signs" "_law_signs" (defArgs s__law_signs) (defBody s__law_signs) (defScope s__law_signs) .none kV2 dc2 pm2 an2 cd2 ct2), sl2⟩)
    (c2 : PySem.W.codeIn K cd2 "_law_signs" = true)
    (k2 : PySem.W.keepIn K (.ref f2) = true)
    (a3 : PySem.W.nsIn K mainGlobals "_law_names" = some (some (.ref f3)))
    (l3 : K.lookup f3 = some ⟨oc3, od3, .func (PySem.W.fnOf "_law_names" "_law_names" (defArgs s__law_names) (defBody s__law_names) (defScope s__law_names) .none kV3 dc3 pm3 an3 cd3 ct3), sl3⟩)
    (c3 : PySem.W.codeIn K cd3 "_law_names" = true)
    (k3 : PySem.W.keepIn K (.ref f3) = true)
    (a4 : PySem.W.nsIn K mainGlobals "is_integer" = some (some (.ref f4)))
    (l4 : K.lookup f4 = some ⟨oc4, od4, .func (PySem.W.fnOf "is_integer" "is_integer" (defArgs s_is_integer) (defBody s_is_integer) (defScope s_is_integer) .none kV4 dc4 pm4 an4 cd4 ct4), sl4⟩)
    (c4 : PySem.W.codeIn K cd4 "is_integer" = true)
    (k4 : PySem.W.keepIn K (.ref f4) = true)
    (a5 : PySem.W.nsIn K mainGlobals "is_integer_within" = some (some (.ref f5)))
    (l5 : K.lookup f5 = some ⟨oc5, od5, .func (PySem.W.fnOf "is_integer_within" "is_integer_within" (defArgs s_is_integer_within) (defBody s_is_integer_within) (defScope s_is_integer_within) .none kV5 dc5 pm5 an5 cd5 ct5), sl5⟩)
    (c5 : PySem.W.codeIn K cd5 "is_integer_within" = true)
    (k5 : PySem.W.keepIn K (.ref f5) = true)
    (a6 : PySem.W.nsIn K mainGlobals "cell_text" = some (some (.ref f6)))
    (l6 : K.lookup f6 = some ⟨oc6, od6, .func (PySem.W.fnOf "cell_text" "cell_text" (defArgs s_cell_text) (defBody s_cell_text) (defScope s_cell_text) .none kV6 dc6 pm6 an6 cd6 ct6), sl6⟩)
    (c6 : PySem.W.codeIn K cd6 "cell_text" = true)
    (k6 : PySem.W.keepIn K (.ref f6) = true)
    (a7 : PySem.W.findIn K (.ref CN) "__init__" = some (some (.ref f7)))
    (i7 : PySem.W.isFn K (.ref f7) = true)
    (l7 : K.lookup f7 = some ⟨oc7, od7, .func (PySem.W.fnOf "__init__" "Numbers.__init__" (defArgs s_Numbers____init__) (defBody s_Numbers____init__) (defScope s_Numbers____init__) .none kV7 dc7 pm7 an7 cd7 ct7), sl7⟩)
    (c7 : PySem.W.codeIn K cd7 "Numbers.__init__" = true)
    (k7 : PySem.W.keepIn K (.ref f7) = true)
    (a8 : PySem.W.findIn K (.ref CN) "__eq__" = some (some (.ref f8)))
    (i8 : PySem.W.isFn K (.ref f8) = true)
    (l8 : K.lookup f8 = some ⟨oc8, od8, .func (PySem.W.fnOf "__eq__" "Numbers.__eq__" (defArgs s_Numbers____eq__) (defBody s_Numbers____eq__) (defScope s_Numbers____eq__) .none kV8 dc8 pm8 an8 cd8 ct8), sl8⟩)
    (c8 : PySem.W.codeIn K cd8 "Numbers.__eq__" = true)
    (k8 : PySem.W.keepIn K (.ref f8) = true)
    (a9 : PySem.W.findIn K (.ref CT) "known" = some (some (.ref f9)))
    (i9 : PySem.W.isFn K (.ref f9) = true)
    (l9 : K.lookup f9 = some ⟨oc9, od9, .func (PySem.W.fnOf "known" "Texts.known" (defArgs s_Texts__known) (defBody s_Texts__known) (defScope s_Texts__known) .none kV9 dc9 pm9 an9 cd9 ct9), sl9⟩)
    (c9 : PySem.W.codeIn K cd9 "Texts.known" = true)
    (k9 : PySem.W.keepIn K (.ref f9) = true)
    (a10 : PySem.W.findIn K (.ref CT) "cell" = some (some (.ref f10)))
    (i10 : PySem.W.isFn K (.ref f10) = true)
    (l10 : K.lookup f10 = some ⟨oc10, od10, .func (PySem.W.fnOf "cell" "Texts.cell" (defArgs s_Texts__cell) (defBody s_Texts__cell) (defScope s_Texts__cell) .none kV10 dc10 pm10 an10 cd10 ct10), sl10⟩)
    (c10 : PySem.W.codeIn K cd10 "Texts.cell" = true)
    (k10 : PySem.W.keepIn K (.ref f10) = true)
    (a11 : PySem.W.findIn K (.ref CT) "work" = some (some (.ref f11)))
    (i11 : PySem.W.isFn K (.ref f11) = true)
    (l11 : K.lookup f11 = some ⟨oc11, od11, .func (PySem.W.fnOf "work" "Texts.work" (defArgs s_Texts__work) (defBody s_Texts__work) (defScope s_Texts__work) .none kV11 dc11 pm11 an11 cd11 ct11), sl11⟩)
    (c11 : PySem.W.codeIn K cd11 "Texts.work" = true)
    (k11 : PySem.W.keepIn K (.ref f11) = true)
    (a12 : PySem.W.findIn K (.ref CT) "__eq__" = some (some (.ref f12)))
    (i12 : PySem.W.isFn K (.ref f12) = true)
    (l12 : K.lookup f12 = some ⟨oc12, od12, .func (PySem.W.fnOf "__eq__" "Texts.__eq__" (defArgs s_Texts____eq__) (defBody s_Texts____eq__) (defScope s_Texts____eq__) .none kV12 dc12 pm12 an12 cd12 ct12), sl12⟩)
    (c12 : PySem.W.codeIn K cd12 "Texts.__eq__" = true)
    (k12 : PySem.W.keepIn K (.ref f12) = true)
    (a13 : PySem.W.findIn K (.ref CT) "__repr__" = some (some (.ref f13)))
    (i13 : PySem.W.isFn K (.ref f13) = true)
    (l13 : K.lookup f13 = some ⟨oc13, od13, .func (PySem.W.fnOf "__repr__" "Texts.__repr__" (defArgs s_Texts____repr__) (defBody s_Texts____repr__) (defScope s_Texts____repr__) .none kV13 dc13 pm13 an13 cd13 ct13), sl13⟩)
    (c13 : PySem.W.codeIn K cd13 "Texts.__repr__" = true)
    (k13 : PySem.W.keepIn K (.ref f13) = true)
    (a14 : PySem.W.nsIn K mainGlobals "_law_leaf" = some (some (.ref f14)))
    (l14 : K.lookup f14 = some ⟨oc14, od14, .func (PySem.W.fnOf "_law_leaf" "_law_leaf" (defArgs s__law_leaf) (defBody s__law_leaf) (defScope s__law_leaf) .none kV14 dc14 pm14 an14 cd14 ct14), sl14⟩)
    (c14 : PySem.W.codeIn K cd14 "_law_leaf" = true)
    (k14 : PySem.W.keepIn K (.ref f14) = true)
    (a15 : PySem.W.nsIn K mainGlobals "_law_far" = some (some (.ref f15)))
    (l15 : K.lookup f15 = some ⟨oc15, od15, .func (PySem.W.fnOf "_law_far" "_law_far" (defArgs s__law_far) (defBody s__law_far) (defScope s__law_far) .none kV15 dc15 pm15 an15 cd15 ct15), sl15⟩)
    (c15 : PySem.W.codeIn K cd15 "_law_far" = true)
    (k15 : PySem.W.keepIn K (.ref f15) = true)
    (a16 : PySem.W.nsIn K mainGlobals "_law_right" = some (some (.ref f16)))
    (l16 : K.lookup f16 = some ⟨oc16, od16, .func (PySem.W.fnOf "_law_right" "_law_right" (defArgs s__law_right) (defBody s__law_right) (defScope s__law_right) .none kV16 dc16 pm16 an16 cd16 ct16), sl16⟩)
    (c16 : PySem.W.codeIn K cd16 "_law_right" = true)
    (k16 : PySem.W.keepIn K (.ref f16) = true)
    (a17 : PySem.W.nsIn K mainGlobals "law" = some (some (.ref f17)))
    (l17 : K.lookup f17 = some ⟨oc17, od17, .func (PySem.W.fnOf "law" "law" (defArgs s_law) (defBody s_law) (defScope s_law) .none kV17 dc17 pm17 an17 cd17 ct17), sl17⟩)
    (c17 : PySem.W.codeIn K cd17 "law" = true)
    (k17 : PySem.W.keepIn K (.ref f17) = true)
    (z_int : PySem.W.nsIn K mainGlobals "int" = some none)
    (z_len : PySem.W.nsIn K mainGlobals "len" = some none)
    (z_abs : PySem.W.nsIn K mainGlobals "abs" = some none)
    (z_divmod : PySem.W.nsIn K mainGlobals "divmod" = some none)
    (z_range : PySem.W.nsIn K mainGlobals "range" = some none)
    (z_isinstance : PySem.W.nsIn K mainGlobals "isinstance" = some none)
    (z_bool : PySem.W.nsIn K mainGlobals "bool" = some none)
    (z_ord : PySem.W.nsIn K mainGlobals "ord" = some none)
    (z_str : PySem.W.nsIn K mainGlobals "str" = some none)
    (z_repr : PySem.W.nsIn K mainGlobals "repr" = some none)
    (z_tuple : PySem.W.nsIn K mainGlobals "tuple" = some none)
    (z_min : PySem.W.nsIn K mainGlobals "min" = some none)
    (z_max : PySem.W.nsIn K mainGlobals "max" = some none)
    (z_all : PySem.W.nsIn K mainGlobals "all" = some none)
    (v_LEAST_MODULUS : PySem.W.nsIn K mainGlobals "LEAST_MODULUS" = some (some (.int 2 t_LEAST_MODULUS)))
    (v_MOST_MODULUS : PySem.W.nsIn K mainGlobals "MOST_MODULUS" = some (some (.int 1000000000 t_MOST_MODULUS)))
    (v_LEAST_SEED : PySem.W.nsIn K mainGlobals "LEAST_SEED" = some (some (.int 0 t_LEAST_SEED)))
    (v_MOST_SEED : PySem.W.nsIn K mainGlobals "MOST_SEED" = some (some (.int 1000000000 t_MOST_SEED)))
    (aM : PySem.W.findIn K (.ref CN) "_modulus" = some none)
    (aS : PySem.W.findIn K (.ref CN) "_seed" = some none)
    (xn : PySem.W.specialIn K (.builtin "object.__class__") "__get__" = some (some (.builtin "getset_descriptor.__get__")))
    (xt : PySem.W.takesIn K (.builtin "object.__class__") = some true)
    (nbT : PySem.W.findIn K (.ref CT) "__bool__" = some none)
    (nlT : PySem.W.findIn K (.ref CT) "__len__" = some none)
    (iT : PySem.W.findIn K (.ref CT) "__init__" = some (some (.builtin "object.__init__")))
    (sTN : PySem.W.subIn K (.ref CT) (.ref CN) = some false)
    (sNT : PySem.W.subIn K (.ref CN) (.ref CT) = some false)
    (fTT : PySem.W.notFirst K CT (.ref CT) = true)
    (fNT : PySem.W.notFirst K CT (.ref CN) = true)
    (fTN : PySem.W.notFirst K CN (.ref CT) = true)
    (neCN : PySem.W.findIn K (.ref CN) "__ne__" = some (some (.builtin "object.__ne__")))
    (xcCN : PySem.W.findIn K (.ref CN) "__class__" = some (some (.builtin "object.__class__")))
    (xmCN : PySem.W.mroIn K CN (.type "object") = some true)
    (icCN : PySem.W.isClsIn K CN = true)
    (tyCN : PySem.W.typeIn K (.ref CN) = some (.type "type"))
    (neCT : PySem.W.findIn K (.ref CT) "__ne__" = some (some (.builtin "object.__ne__")))
    (xcCT : PySem.W.findIn K (.ref CT) "__class__" = some (some (.builtin "object.__class__")))
    (xmCT : PySem.W.mroIn K CT (.type "object") = some true)
    (icCT : PySem.W.isClsIn K CT = true)
    (tyCT : PySem.W.typeIn K (.ref CT) = some (.type "type"))
    (kb_NoneType : PySem.W.subIn K (.type "NoneType") (.ref CT) = some false)
    (fb_NoneType : PySem.W.notFirst K CT (.type "NoneType") = true)
    (mb_NoneType : PySem.W.mroIn K CT (.type "NoneType") = some false)
    (kb_bool : PySem.W.subIn K (.type "bool") (.ref CT) = some false)
    (fb_bool : PySem.W.notFirst K CT (.type "bool") = true)
    (mb_bool : PySem.W.mroIn K CT (.type "bool") = some false)
    (kb_int : PySem.W.subIn K (.type "int") (.ref CT) = some false)
    (fb_int : PySem.W.notFirst K CT (.type "int") = true)
    (mb_int : PySem.W.mroIn K CT (.type "int") = some false)
    (kb_str : PySem.W.subIn K (.type "str") (.ref CT) = some false)
    (fb_str : PySem.W.notFirst K CT (.type "str") = true)
    (mb_str : PySem.W.mroIn K CT (.type "str") = some false)
    (kb_list : PySem.W.subIn K (.type "list") (.ref CT) = some false)
    (fb_list : PySem.W.notFirst K CT (.type "list") = true)
    (mb_list : PySem.W.mroIn K CT (.type "list") = some false)
    (kb_tuple : PySem.W.subIn K (.type "tuple") (.ref CT) = some false)
    (fb_tuple : PySem.W.notFirst K CT (.type "tuple") = true)
    (mb_tuple : PySem.W.mroIn K CT (.type "tuple") = some false) :
    ∃ fd : FuncData, (∀ (s : Shared) (v : Value), BindsTo s fd ⟨[v], []⟩ [("cells", v)]) ∧ ∀ base : Heap, K.In base → base.Ns mainGlobals mg → FG l.prog w K mg base CX0 8 fa fd ["cells"] (spLaw K) := by
  have e := hfa.symm.trans (PySem.W.mg_of X G a17)
  cases e
  have clCN : Cls K CN := ⟨pgCN, hdCN, poCN, saCN⟩
  have clCT : Cls K CT := ⟨pgCT, hdCT, poCT, saCT⟩
  have F0 := fun_mk (st := s__law_purse) l0 c0 k0
  have b0 := F0.binds (ps := ["cells", "k"]) fun _ _ _ _ _ _ us hl => match us, hl with | [_, _], _ => rfl
  have F1 := fun_mk (st := s__law_draw) l1 c1 k1
  have b1 := F1.binds (ps := ["purse", "many"]) fun _ _ _ _ _ _ us hl => match us, hl with | [_, _], _ => rfl
  have F2 := fun_mk (st := s__law_signs) l2 c2 k2
  have b2 := F2.binds (ps := ["purse"]) fun _ _ _ _ _ _ us hl => match us, hl with | [_], _ => rfl
  have F3 := fun_mk (st := s__law_names) l3 c3 k3
  have b3 := F3.binds (ps := ["purse", "many", "used"]) fun _ _ _ _ _ _ us hl => match us, hl with | [_, _, _], _ => rfl
  have F4 := fun_mk (st := s_is_integer) l4 c4 k4
  have b4 := F4.binds (ps := ["value"]) fun _ _ _ _ _ _ us hl => match us, hl with | [_], _ => rfl
  have F5 := fun_mk (st := s_is_integer_within) l5 c5 k5
  have b5 := F5.binds (ps := ["value", "least", "most"]) fun _ _ _ _ _ _ us hl => match us, hl with | [_, _, _], _ => rfl
  have F6 := fun_mk (st := s_cell_text) l6 c6 k6
  have b6 := F6.binds (ps := ["array", "index"]) fun _ _ _ _ _ _ us hl => match us, hl with | [_, _], _ => rfl
  have F7 := fun_mk (st := s_Numbers____init__) l7 c7 k7
  have b7 := F7.binds (ps := ["self", "modulus", "seed"]) fun _ _ _ _ _ _ us hl => match us, hl with | [_, _, _], _ => rfl
  have F8 := fun_mk (st := s_Numbers____eq__) l8 c8 k8
  have b8 := F8.binds (ps := ["self", "other"]) fun _ _ _ _ _ _ us hl => match us, hl with | [_, _], _ => rfl
  have F9 := fun_mk (st := s_Texts__known) l9 c9 k9
  have b9 := F9.binds (ps := ["self", "name"]) fun _ _ _ _ _ _ us hl => match us, hl with | [_, _], _ => rfl
  have F10 := fun_mk (st := s_Texts__cell) l10 c10 k10
  have b10 := F10.binds (ps := ["self", "array", "index"]) fun _ _ _ _ _ _ us hl => match us, hl with | [_, _, _], _ => rfl
  have F11 := fun_mk (st := s_Texts__work) l11 c11 k11
  have b11 := F11.binds (ps := ["self", "word", "arguments"]) fun _ _ _ _ _ _ us hl => match us, hl with | [_, _, _], _ => rfl
  have F12 := fun_mk (st := s_Texts____eq__) l12 c12 k12
  have b12 := F12.binds (ps := ["self", "other"]) fun _ _ _ _ _ _ us hl => match us, hl with | [_, _], _ => rfl
  have F13 := fun_mk (st := s_Texts____repr__) l13 c13 k13
  have b13 := F13.binds (ps := ["self"]) fun _ _ _ _ _ _ us hl => match us, hl with | [_], _ => rfl
  have F14 := fun_mk (st := s__law_leaf) l14 c14 k14
  have b14 := F14.binds (ps := ["purse", "ways"]) fun _ _ _ _ _ _ us hl => match us, hl with | [_, _], _ => rfl
  have F15 := fun_mk (st := s__law_far) l15 c15 k15
  have b15 := F15.binds (ps := ["purse"]) fun _ _ _ _ _ _ us hl => match us, hl with | [_], _ => rfl
  have F16 := fun_mk (st := s__law_right) l16 c16 k16
  have b16 := F16.binds (ps := ["purse"]) fun _ _ _ _ _ _ us hl => match us, hl with | [_], _ => rfl
  have F17 := fun_mk (st := s_law) l17 c17 k17
  have b17 := F17.binds (ps := ["cells"]) fun _ _ _ _ _ _ us hl => match us, hl with | [_], _ => rfl
  refine ⟨PySem.W.fnOf "law" "law" (defArgs s_law) (defBody s_law) (defScope s_law) .none kV17 dc17 pm17 an17 cd17 ct17, fun s v => .of_eq rfl, fun base _ _ => ?_⟩
  have T : Txt K mg := ⟨PySem.W.mg_none_of X G z_int, PySem.W.mg_none_of X G z_len, PySem.W.mg_none_of X G z_abs, PySem.W.mg_none_of X G z_divmod, PySem.W.mg_none_of X G z_range⟩
  have TN : TxN K mg CN := ⟨PySem.W.mg_none_of X G z_isinstance, PySem.W.mg_none_of X G z_int, PySem.W.mg_none_of X G z_bool, PySem.W.mg_none_of X G z_ord, ⟨_, PySem.W.mg_of X G v_LEAST_MODULUS⟩, ⟨_, PySem.W.mg_of X G v_MOST_MODULUS⟩, ⟨_, PySem.W.mg_of X G v_LEAST_SEED⟩, ⟨_, PySem.W.mg_of X G v_MOST_SEED⟩, PySem.W.mg_of X G nCN, clCN, aM, aS⟩
  have TW : TxW K mg CT := ⟨PySem.W.mg_none_of X G z_isinstance, PySem.W.mg_of X G nCT, clCT⟩
  have TF : TxF mg := ⟨PySem.W.mg_none_of X G z_str⟩
  have ctN : ClsT K CN := ⟨clCN, xcCN, xn, xt, xmCN⟩
  have ctT : ClsT K CT := ⟨clCT, xcCT, xn, xt, xmCT⟩
  have nTN : CT ≠ CN := fun z => by
    rw [z, a7] at iT
    cases iT
  have TR : TxR K mg CN CT := ⟨PySem.W.mg_none_of X G z_str, PySem.W.mg_none_of X G z_repr, PySem.W.mg_none_of X G z_tuple, PySem.W.mg_none_of X G z_len, PySem.W.mg_none_of X G z_bool, PySem.W.mg_none_of X G z_range, ctN, ctT, ⟨neCN, xmCN⟩, ⟨neCT, xmCT⟩, ?_, nbT, nlT, ⟨PySem.W.mg_of X G nCT, mkCT, iT, xmCT, kcCT⟩, kit_self (by simp), kit_ref icCT tyCT (ref_ne (Ne.symm nTN)) sNT, kit_ref icCN tyCN (ref_ne nTN) sTN, ?_, fTT, fNT, fTN, ?_⟩
  rotate_left
  · intro T hT
    simp only [lfts, List.mem_cons, List.not_mem_nil, or_false] at hT
    rcases hT with rfl | rfl | rfl | rfl | rfl | rfl
    · exact mb_NoneType
    · exact mb_bool
    · exact mb_int
    · exact mb_str
    · exact mb_list
    · exact mb_tuple
  · intro T hT
    simp only [lfts, List.mem_cons, List.not_mem_nil, or_false] at hT
    rcases hT with rfl | rfl | rfl | rfl | rfl | rfl
    · exact kit_ref icCT tyCT rfl kb_NoneType
    · exact kit_ref icCT tyCT rfl kb_bool
    · exact kit_ref icCT tyCT rfl kb_int
    · exact kit_ref icCT tyCT rfl kb_str
    · exact kit_ref icCT tyCT rfl kb_list
    · exact kit_ref icCT tyCT rfl kb_tuple
  · intro T hT
    simp only [lfts, List.mem_cons, List.not_mem_nil, or_false] at hT
    rcases hT with rfl | rfl | rfl | rfl | rfl | rfl
    · exact fb_NoneType
    · exact fb_bool
    · exact fb_int
    · exact fb_str
    · exact fb_list
    · exact fb_tuple
  have TA : TxA K mg CT := ⟨clCT, ⟨PySem.W.mg_of X G nCT, mkCT, iT, xmCT, kcCT⟩, PySem.W.mg_none_of X G z_len, PySem.W.mg_none_of X G z_min, PySem.W.mg_none_of X G z_max, PySem.W.mg_none_of X G z_range, PySem.W.mg_none_of X G z_repr, PySem.W.mg_none_of X G z_all⟩
  have C_purse : Cal l.prog w K mg base "_law_purse" 1 ["cells", "k"] (spPurse K) := ⟨⟨_, _, ok_purse F0 T, PySem.W.mg_of X G a0, k0, b0⟩⟩
  have C_draw : Cal l.prog w K mg base "_law_draw" 1 ["purse", "many"] (spDraw) := ⟨⟨_, _, ok_draw F1 T, PySem.W.mg_of X G a1, k1, b1⟩⟩
  have C_signs : Cal l.prog w K mg base "_law_signs" 2 ["purse"] (spSigns) := ⟨⟨_, _, ok_signs F2 T C_draw, PySem.W.mg_of X G a2, k2, b2⟩⟩
  have C_names : Cal l.prog w K mg base "_law_names" 3 ["purse", "many", "used"] (spNames) := ⟨⟨_, _, ok_names F3 T C_signs, PySem.W.mg_of X G a3, k3, b3⟩⟩
  have C_isint : Cal l.prog w K mg base "is_integer" 1 ["value"] (spIsInt) := ⟨⟨_, _, ok_isint F4 TN, PySem.W.mg_of X G a4, k4, b4⟩⟩
  have C_within : Cal l.prog w K mg base "is_integer_within" 2 ["value", "least", "most"] (spWithin) := ⟨⟨_, _, ok_within F5 TN C_isint, PySem.W.mg_of X G a5, k5, b5⟩⟩
  have C_celltext : Cal l.prog w K mg base "cell_text" 1 ["array", "index"] (spCellText) := ⟨⟨_, _, ok_celltext F6 , PySem.W.mg_of X G a6, k6, b6⟩⟩
  have G_init : FG l.prog w K mg base CX0 3 f7 _ ["self", "modulus", "seed"] (spInit CN) := ok_init F7 TN C_within
  have K1 : MkG l.prog w K mg base CX0 "Numbers" CN 3 ["self", "modulus", "seed"] (spInit CN) := ⟨⟨_, _, G_init, ⟨mkCN, a7, i7, kcCN⟩, PySem.W.mg_of X G nCN, b7⟩⟩
  have G_wknown : FG l.prog w K mg base CX0 1 f9 _ ["self", "name"] (spWKnown) := ok_wknown F9 
  have M_wknown : MethG l.prog w K mg base CT "known" 1 ["self", "name"] (spWKnown) := ⟨⟨_, _, G_wknown, ⟨a9, i9, k9⟩, b9⟩⟩
  have K_wknown : MethK l.prog w K mg base CT "known" 1 ["self", "name"] 1 ["name"] kN (spWKnown) := ⟨⟨_, _, G_wknown, ⟨a9, i9, k9⟩, ⟨fun s us ws h1 h2 => match us, h1, ws, h2 with | [_], _, [_], _ => .of_eq rfl, fun r t => Vals.append r t⟩⟩⟩
  have G_wcell : FG l.prog w K mg base CX0 2 f10 _ ["self", "array", "index"] (spWCell) := ok_wcell F10 C_celltext
  have M_wcell : MethG l.prog w K mg base CT "cell" 2 ["self", "array", "index"] (spWCell) := ⟨⟨_, _, G_wcell, ⟨a10, i10, k10⟩, b10⟩⟩
  have K_wcell : MethK l.prog w K mg base CT "cell" 2 ["self", "array", "index"] 1 ["index", "array"] kSM (spWCell) := ⟨⟨_, _, G_wcell, ⟨a10, i10, k10⟩, ⟨fun s us ws h1 h2 => match us, h1, ws, h2 with | [_], _, [_, _], _ => .of_eq rfl, fun r t => Vals.append r (Vals.reverse t)⟩⟩⟩
  have G_wwork : FG l.prog w K mg base CX0 1 f11 _ ["self", "word", "arguments"] (spWWork) := ok_wwork F11 
  have M_wwork : MethG l.prog w K mg base CT "work" 1 ["self", "word", "arguments"] (spWWork) := ⟨⟨_, _, G_wwork, ⟨a11, i11, k11⟩, b11⟩⟩
  have K_wwork : MethK l.prog w K mg base CT "work" 1 ["self", "word", "arguments"] 1 ["arguments", "word"] kSM (spWWork) := ⟨⟨_, _, G_wwork, ⟨a11, i11, k11⟩, ⟨fun s us ws h1 h2 => match us, h1, ws, h2 with | [_], _, [_, _], _ => .of_eq rfl, fun r t => Vals.append r (Vals.reverse t)⟩⟩⟩
  have EN : EqG l.prog w K mg base CN 1 (spEqN K CN) := ⟨⟨_, _, ok_eqn F8 TN, a8, i8, b8⟩⟩
  have ET : EqG l.prog w K mg base CT 1 (spEqT K CT) := ⟨⟨_, _, ok_weq F12 TW, a12, i12, b12⟩⟩
  have RT : ReG l.prog w K mg base CT 1 spReprT := ⟨⟨_, _, ok_wrepr F13, a13, i13, b13⟩⟩
  have C_leaf : Cal l.prog w K mg base "_law_leaf" 4 ["purse", "ways"] (spLeaf) := ⟨⟨_, _, ok_leaf F14 TF C_draw C_names, PySem.W.mg_of X G a14, k14, b14⟩⟩
  have C_far : Cal l.prog w K mg base "_law_far" 2 ["purse"] (spFar) := ⟨⟨_, _, ok_far F15 C_draw, PySem.W.mg_of X G a15, k15, b15⟩⟩
  have C_right : Cal l.prog w K mg base "_law_right" 6 ["purse"] (spRight) := ⟨⟨_, _, ok_right F16 TR C_draw C_names C_leaf C_far K1 M_wknown K_wknown M_wcell K_wcell M_wwork K_wwork EN ET RT, PySem.W.mg_of X G a16, k16, b16⟩⟩
  exact ok_law F17 TA C_purse C_right M_wknown M_wcell M_wwork
end Lk
open PySem PySem.W PyProof.Rows
set_option maxRecDepth 100000 in
set_option maxHeartbeats 0 in
theorem PySem.Challenge.cw_overlapturns_k02_worlds_of_texts_holds : PySem.Challenge.rw_overlapturns_k02_worlds_of_texts.Holds := by
  w_on; o_law; k_head; (case hw => w_witness2)
  k_fill
  refine G.walk_g (l := PySem.Challenge.rw_overlapturns_k02_worlds_of_texts) (n := 63) (k := 8) (x := "cells") (sp := Lk.spLaw) rfl (by decide) rfl ⟨rfl, by decide, by decide⟩ (fun w h Y => PySem.W.kIn_of Y) ?F (fun K H a ns hl q => ⟨a, ns, rfl, q, hl, fun _ => rfl⟩)
  case F =>
    intro w mg fa h KX G hmg
    refine' Lk.all_mk KX G hmg ?nCN ?pgCN ?hdCN ?poCN ?saCN ?mkCN ?kcCN ?nCT ?pgCT ?hdCT ?poCT ?saCT ?mkCT ?kcCT ?a0 ?l0 ?c0 ?k0 ?a1 ?l1 ?c1 ?k1 ?a2 ?l2 ?c2 ?k2 ?a3 ?l3 ?c3 ?k3 ?a4 ?l4 ?c4 ?k4 ?a5 ?l5 ?c5 ?k5 ?a6 ?l6 ?c6 ?k6 ?a7 ?i7 ?l7 ?c7 ?k7 ?a8 ?i8 ?l8 ?c8 ?k8 ?a9 ?i9 ?l9 ?c9 ?k9 ?a10 ?i10 ?l10 ?c10 ?k10 ?a11 ?i11 ?l11 ?c11 ?k11 ?a12 ?i12 ?l12 ?c12 ?k12 ?a13 ?i13 ?l13 ?c13 ?k13 ?a14 ?l14 ?c14 ?k14 ?a15 ?l15 ?c15 ?k15 ?a16 ?l16 ?c16 ?k16 ?a17 ?l17 ?c17 ?k17 ?z_int ?z_len ?z_abs ?z_divmod ?z_range ?z_isinstance ?z_bool ?z_ord ?z_str ?z_repr ?z_tuple ?z_min ?z_max ?z_all ?v_LEAST_MODULUS ?v_MOST_MODULUS ?v_LEAST_SEED ?v_MOST_SEED ?aM ?aS ?xn ?xt ?nbT ?nlT ?iT ?sTN ?sNT ?fTT ?fNT ?fTN ?neCN ?xcCN ?xmCN ?icCN ?tyCN ?neCT ?xcCT ?xmCT ?icCT ?tyCT ?kb_NoneType ?fb_NoneType ?mb_NoneType ?kb_bool ?fb_bool ?mb_bool ?kb_int ?fb_int ?mb_int ?kb_str ?fb_str ?mb_str ?kb_list ?fb_list ?mb_list ?kb_tuple ?fb_tuple ?mb_tuple
    (case nCN => k_is); (case pgCN => k_is); (case hdCN => k_is); (case poCN => k_is); (case saCN => k_is); (case mkCN => k_is)
    (case kcCN => k_is); (case nCT => k_is); (case pgCT => k_is); (case hdCT => k_is); (case poCT => k_is); (case saCT => k_is)
    (case mkCT => k_is); (case kcCT => k_is); (case a0 => k_is); (case l0 => k_is); (case c0 => k_is); (case k0 => k_is)
    (case a1 => k_is); (case l1 => k_is); (case c1 => k_is); (case k1 => k_is); (case a2 => k_is); (case l2 => k_is)
    (case c2 => k_is); (case k2 => k_is); (case a3 => k_is); (case l3 => k_is); (case c3 => k_is); (case k3 => k_is)
    (case a4 => k_is); (case l4 => k_is); (case c4 => k_is); (case k4 => k_is); (case a5 => k_is); (case l5 => k_is)
    (case c5 => k_is); (case k5 => k_is); (case a6 => k_is); (case l6 => k_is); (case c6 => k_is); (case k6 => k_is)
    (case a7 => k_is); (case i7 => k_is); (case l7 => k_is); (case c7 => k_is); (case k7 => k_is); (case a8 => k_is)
    (case i8 => k_is); (case l8 => k_is); (case c8 => k_is); (case k8 => k_is); (case a9 => k_is); (case i9 => k_is)
    (case l9 => k_is); (case c9 => k_is); (case k9 => k_is); (case a10 => k_is); (case i10 => k_is); (case l10 => k_is)
    (case c10 => k_is); (case k10 => k_is); (case a11 => k_is); (case i11 => k_is); (case l11 => k_is); (case c11 => k_is)
    (case k11 => k_is); (case a12 => k_is); (case i12 => k_is); (case l12 => k_is); (case c12 => k_is); (case k12 => k_is)
    (case a13 => k_is); (case i13 => k_is); (case l13 => k_is); (case c13 => k_is); (case k13 => k_is); (case a14 => k_is)
    (case l14 => k_is); (case c14 => k_is); (case k14 => k_is); (case a15 => k_is); (case l15 => k_is); (case c15 => k_is)
    (case k15 => k_is); (case a16 => k_is); (case l16 => k_is); (case c16 => k_is); (case k16 => k_is); (case a17 => k_is)
    (case l17 => k_is); (case c17 => k_is); (case k17 => k_is); (case z_int => k_is); (case z_len => k_is); (case z_abs => k_is)
    (case z_divmod => k_is); (case z_range => k_is); (case z_isinstance => k_is); (case z_bool => k_is); (case z_ord => k_is); (case z_str => k_is)
    (case z_repr => k_is); (case z_tuple => k_is); (case z_min => k_is); (case z_max => k_is); (case z_all => k_is); (case v_LEAST_MODULUS => k_is)
    (case v_MOST_MODULUS => k_is); (case v_LEAST_SEED => k_is); (case v_MOST_SEED => k_is); (case aM => k_is); (case aS => k_is); (case xn => k_is)
    (case xt => k_is); (case nbT => k_is); (case nlT => k_is); (case iT => k_is); (case sTN => k_is); (case sNT => k_is)
    (case fTT => k_is); (case fNT => k_is); (case fTN => k_is); (case neCN => k_is); (case xcCN => k_is); (case xmCN => k_is)
    (case icCN => k_is); (case tyCN => k_is); (case neCT => k_is); (case xcCT => k_is); (case xmCT => k_is); (case icCT => k_is)
    (case tyCT => k_is); (case kb_NoneType => k_is); (case fb_NoneType => k_is); (case mb_NoneType => k_is); (case kb_bool => k_is); (case fb_bool => k_is)
    (case mb_bool => k_is); (case kb_int => k_is); (case fb_int => k_is); (case mb_int => k_is); (case kb_str => k_is); (case fb_str => k_is)
    (case mb_str => k_is); (case kb_list => k_is); (case fb_list => k_is); (case mb_list => k_is); (case kb_tuple => k_is); (case fb_tuple => k_is)
    (case mb_tuple => k_is)
