import PyProof.Rows.All
import Wide.All
import OpenK.AllK
import Wide.FinOn
import PyProof.EqAt
import PyProof.EqKinds
import PyProof.TupleCall
import HandS.Base
import HandS.Call
import HandS.List
import HandS.Ends
import HandS.Exc
import HandS.TryOnly
import HandS.ExcOwn
import HandS.Words
import HandS.WordsList
import HandS.ForMost
import HandS.WordsExc
import HandS.Wide
import HandS.TupAny
import HandS.IsInst
import HandS.ExcInit
import HandS.ExcValue
import HandS.ExcIs
import HandS.ExcField
import HandS.TryMany
import HandS.RaiseMore
import HandS.NoneIn
import KE.KExcInit
import KE.KExcIs
import KE.KExcStr
import PyProof.Rows.FactsExc_KeyError
import HandS.ExcCtx
import HandS.Walk
import HandS.Zip
import HandS.Text
import PyProof.FactsAll.dict_1
import PyProof.FactsAll.subtypes_3
import PyProof.FactsAll.subtypes_4
import HandS.EndTab
import HandS.HeadWalk
import HandS.SetFor
import HandS.Strs
import HandS.Star
import KE.SortData
import HandS.Sort
import HandS.Style
import HandS.More
import PySem.Challenge.RW_caseflow_k02_whole_defects_by_paths
import HandS.Replace
import KE.DatumOrd
import HandS.SortRule
import HandS.DictComp
import KE.GoesMore
import KE.KUnpack
import HandS.Conv
import PyProof.Rows.StrRev
import PyProof.Rows.StrCase
import HandS.HotCalls
import HandS.SuiteRaise
import HandS.ExcInitHot
import KE.KNest
set_option Elab.async false
set_option linter.all false
set_option maxRecDepth 100000
set_option maxHeartbeats 2000000
/-! Calls where no repr is under way: the promise of a def FnG (as FnOk, with the guards known), its call, the end of a law. -/
namespace L2
open PySem PySem.Spec PyProof.Rows

structure RoomG (k : Nat) (A : Around) : Prop where
  r : Room k A
  g : A.guards = some []
theorem RoomG.mono {j k : Nat} {A : Around} (r : RoomG k A) (h : j ≤ k) : RoomG j A := ⟨r.r.mono h, r.g⟩
theorem RoomG.deeper {k : Nat} {A : Around} (r : RoomG (k + 1) A) (env : Env) : RoomG k (A.deeper env) := ⟨r.r.deeper env, r.g⟩

structure FnG (P : Program) (w : World) (K : PySem.W.Frag) (mg : Str → Option Value) (base : Heap) (CX : CXT) (k : Nat) (f : Addr) (fd : FuncData) (ps : List Str) (sp : Sp) : Prop where
  len : ∀ vs H Q E, sp vs H Q E → vs.length = ps.length
  run : ∀ (A : Around) (outer : List Env) (s : Shared) (H : Hp) (args : Args) (us : List Value) (vs : List V) (Q : VK) (E : XK), RoomG k A → Env0 P w K mg base A outer s H → BindsTo s fd args (ps.zip us) → Vals vs us → sp vs H Q E →
    codeAny (model P w) A (.call (.ref f) args) (CR CX outer P w H s Q E) s
theorem FnG.of {P : Program} {w : World} {K : PySem.W.Frag} {mg : Str → Option Value} {base : Heap} {CX : CXT} {k : Nat} {f : Addr} {fd : FuncData} {ps : List Str} {sp : Sp} (F : FnOk P w K mg base CX k f fd ps sp) : FnG P w K mg base CX k f fd ps sp :=
  ⟨F.len, fun A outer s H args us vs Q E hr => F.run A outer s H args us vs Q E hr.r⟩
theorem FnG.mono {P : Program} {w : World} {K : PySem.W.Frag} {mg : Str → Option Value} {base : Heap} {CX : CXT} {j k : Nat} {f : Addr} {fd : FuncData} {ps : List Str} {sp : Sp} (F : FnG P w K mg base CX j f fd ps sp) (h : j ≤ k) :
    FnG P w K mg base CX k f fd ps sp := ⟨F.len, fun A outer s H args us vs Q E hr => F.run A outer s H args us vs Q E (hr.mono h)⟩

section
variable {X : Cx} {CX : CXT} {k : Nat} {f C : Addr} {fd : FuncData} {ps : List Str} {sp : Sp} {dvs : List V} {ds : List Value} {E : XK} {x m : Str} {p pos apos : Pos} {e o : Expr} {es : List Expr} {ta : TE} {t : TA}
theorem run_fnG {pins : List (Addr × Obj)} {σ : St} {H : Hp} {s : Shared} {Q : VK} {us : List Value} {vs : List V} (F : FnG X.prog X.w X.K X.mg X.base CX k f fd ps sp) (hr : RoomG k X.A) (hb : Binds X.K fd ps ds) (hd : Vals dvs ds) (hx : Passes CX X E)
    (I : Inv X pins σ H s) (r : Vals vs us) (h : sp (vs ++ dvs) H Q E) : wpAny (model X.prog X.w) X.A (call (.ref f) us) (EP X pins σ Q) X.xe s := by
  have r2 : Vals (vs ++ dvs) (us ++ ds) := r.append hd
  have hl : (us ++ ds).length = ps.length := by rw [← r2.length]; exact F.len _ _ _ _ h
  refine wpAny_call (codeAny_mono (F.run X.A X.stack s H ⟨us, []⟩ (us ++ ds) (vs ++ dvs) Q E hr I.env0 (hb s us I.kIn hl) r2 h) fun r s' hq => ?_)
  cases r with
  | error e => exact hx pins σ H s e s' I hq
  | ok fl =>
    cases fl with
    | ret u => exact I.after hq
    | next => exact False.elim hq
    | brk => exact False.elim hq
    | cont => exact False.elim hq
theorem pe_callG (F : FnG X.prog X.w X.K X.mg X.base CX k f fd ps sp) (hr : RoomG k X.A) (hg : Gl X x) (hm : X.mg x = some (.ref f)) (hk : PySem.W.keepIn X.K (.ref f) = true) (hb : Binds X.K fd ps ds) (hd : Vals dvs ds) (hx : Passes CX X E)
    (ha : PA X (e :: es) t) (hdb : (x == ("__debug__" : Str)) = false := by decide) (he : starEach (e :: es) X.env = (false, eval e X.env) :: starEach es X.env := by rfl) (hpl : (backTo pos (starEach es X.env)).any (·.1) = false := by rfl) :
    PE X (.Call (.Name x p) (e :: es) [] pos) (tCall sp dvs E t) := by
  refine ⟨fun pins s σ H Q I h => ?_⟩
  refine wpAny_Call_Name_kw (ld_glob I hg hm ?_ hdb)
  refine PySem.W.callWith_K (h₀ := X.base) I.ok.mod.kin hk (thn (ha.run pos pins s σ H _ I h) fun us s1 ⟨vs, H1, I1, r, q⟩ => ⟨I1.kIn, ?_⟩) he hpl
  exact run_fnG F hr hb hd hx I1 r q
theorem pe_call0G (F : FnG X.prog X.w X.K X.mg X.base CX k f fd ps sp) (hr : RoomG k X.A) (hg : Gl X x) (hm : X.mg x = some (.ref f)) (hk : PySem.W.keepIn X.K (.ref f) = true) (hb : Binds X.K fd ps ds) (hd : Vals dvs ds) (hx : Passes CX X E)
    (hdb : (x == ("__debug__" : Str)) = false := by decide) : PE X (.Call (.Name x p) [] [] pos) (tCall sp dvs E tNil) := by
  refine ⟨fun pins s σ H Q I h => ?_⟩
  refine wpAny_Call_Name_kw (ld_glob I hg hm ?_ hdb)
  exact PySem.W.callWith_K0 I.kIn hk (run_fnG (us := []) F hr hb hd hx I .nil h)
end

theorem fn_ofG {CX : CXT} {P : Program} {w : World} {K : PySem.W.Frag} {mg : Str → Option Value} {base : Heap} {k : Nat} {f : Addr} {name qual : Str} {params : Arguments} {body : List Stmt} {scope : Scope} {dV kV doc pm cdv ct oc : Value} {an od : Option Addr}
    {osl : Array (Option Value)} {N ps : List Str} {sp : Sp} (lk : K.lookup f = some ⟨oc, od, .func (PySem.W.fnOf name qual params body scope dV kV doc pm an cdv ct), osl⟩) (hcd : PySem.W.codeIn K cdv qual = true) (S : FnScope N ps scope)
    (len : ∀ vs H Q E, sp vs H Q E → vs.length = ps.length)
    (hbody : ∀ (A : Around) (outer : List Env) (s : Shared) (H : Hp) (vs : List V) (Q : VK) (E : XK), RoomG k (A.deeper (envOfC qual scope s.heap.objs.size f cdv)) → sp vs H Q E →
      ∃ t, PSs (cxOf CX P w K mg base N qual scope f cdv A outer s H E) body t ∧ t { nx := fun _ H' => Q .non H', rt := Q } (start N vs) H) :
    FnG P w K mg base CX (k + 1) f (PySem.W.fnOf name qual params body scope dV kV doc pm an cdv ct) ps sp := by
  refine ⟨len, fun A outer s H args us vs Q E hr e0 hb r hsp => ?_⟩
  have hl := len _ _ _ _ hsp
  have KX : K.In s.heap := e0.mod.kin.keeps fun b o e => (e0.bs b o e).1
  have lim : s.heap.NoLimit := e0.mod.nolimit.keeps fun b o e => (e0.bs b o e).1
  have hkind : ∀ y ∈ ps.zip us, scope.names.lookup y.1 = some .local ∨ (scope.names.lookup y.1 = some .cell ∧ ((cellsFrom (s.heap.objs.size + 1) scope.names []).lookup y.1).isSome = true) := fun ⟨n, v⟩ hy => by
    rcases S.par n (List.of_mem_zip hy).1 with q | q
    · exact .inl q
    · exact .inr ⟨q, PySem.W.cellsFrom_some _ _ _ (.inl q)⟩
  refine codeAny_call_function hr.r.depth (KX _ _ lk) rfl S.co S.gen rfl (PySem.W.codeRec_of KX hcd) (hb _ _ _ _ ?_)
  refine wpAny_newFunctionEnv_cells S.kind hkind fun env he s1 x => ?_
  subst he
  refine ⟨lim.keeps x.toInCall.keep, codeAny_func ?_⟩
  obtain ⟨t, ht, hq⟩ := hbody A outer s H vs Q E (hr.deeper _) hsp
  have I : Inv (cxOf CX P w K mg base N qual scope f cdv A outer s H E) [] (start N vs) H s1 := inv_start S hr.r.hd e0 hl r x
  refine wpAny_mono (ht.run [] s1 (start N vs) H _ I hq) (fun fl s' hs => ?_) fun e s' hs => hs
  have fin : ∀ {σ' : St} {H' : Hp} {v : V} {u : Value}, Inv (cxOf CX P w K mg base N qual scope f cdv A outer s H E) [] σ' H' s' → RelV v u → Q v H' → CE outer P w H s Q u s' :=
    fun {σ' H' v u} J rv q => ⟨v, H', J.os, J.bare, J.base, J.hok, rv, q⟩
  cases fl with
  | ret u =>
    obtain ⟨v, σ', H', J, rv, q⟩ := hs
    exact fin J rv q
  | next =>
    obtain ⟨σ', H', J, q⟩ := hs
    exact fin (v := V.non) (u := Value.none) J rfl q
  | brk =>
    obtain ⟨_, _, _, q⟩ := hs
    exact False.elim q
  | cont =>
    obtain ⟨_, _, _, q⟩ := hs
    exact False.elim q

section
variable {P : Program} {w : World} {K : PySem.W.Frag} {mg : Str → Option Value} {base : Heap}
theorem okG {x qual : Str} {st : Stmt} {f : Addr} {fd : FuncData} {N ps : List Str} {k : Nat} {sp : Sp} (F : Fun K x qual st f fd) (S : FnScope N ps (defScope st)) (len : ∀ vs H Q E, sp vs H Q E → vs.length = ps.length)
    (hbody : ∀ (cdv : Value) (A : Around) (outer : List Env) (s : Shared) (H : Hp) (vs : List V) (Q : VK) (E : XK), RoomG k (A.deeper (envOfC qual (defScope st) s.heap.objs.size f cdv)) → sp vs H Q E →
      ∃ t, PSs (cxOf CX0 P w K mg base N qual (defScope st) f cdv A outer s H E).nox (defBody st) t ∧ t { nx := fun _ H' => Q .non H', rt := Q } (start N vs) H) : FnG P w K mg base CX0 (k + 1) f fd ps sp := by
  obtain ⟨oc, od, kV, doc, pm, an, cdv, ct, osl, rfl, lk, hcd⟩ := F.ex
  refine fn_ofG lk hcd S len fun A outer s H vs Q E hr hsp => ?_
  obtain ⟨t, h, q⟩ := hbody cdv A outer s H vs Q E hr hsp
  exact ⟨t, h.nox, q⟩
theorem okGX {x qual : Str} {st : Stmt} {f : Addr} {fd : FuncData} {N ps : List Str} {k : Nat} {sp : Sp} (F : Fun K x qual st f fd) (S : FnScope N ps (defScope st)) (len : ∀ vs H Q E, sp vs H Q E → vs.length = ps.length)
    (hbody : ∀ (cdv : Value) (A : Around) (outer : List Env) (s : Shared) (H : Hp) (vs : List V) (Q : VK) (E : XK), RoomG k (A.deeper (envOfC qual (defScope st) s.heap.objs.size f cdv)) → sp vs H Q E →
      ∃ t, PSs (cxOf (L2.CX P w) P w K mg base N qual (defScope st) f cdv A outer s H E) (defBody st) t ∧ t { nx := fun _ H' => Q .non H', rt := Q } (start N vs) H) : FnG P w K mg base (L2.CX P w) (k + 1) f fd ps sp := by
  obtain ⟨oc, od, kV, doc, pm, an, cdv, ct, osl, rfl, lk, hcd⟩ := F.ex
  exact fn_ofG lk hcd S len fun A outer s H vs Q E hr hsp => hbody cdv A outer s H vs Q E hr hsp
end

theorem law_callG {P : Program} {w : World} {K : PySem.W.Frag} {mg mb : Str → Option Value} {CX : CXT} {k : Nat} {fa a : Addr} {fd : FuncData} {x : Str} {sp : Sp} {s₁ : Shared} {vs : List Value} {ns : List Int}
    (KX : K.In s₁.heap) (hns : s₁.heap.Ns mainGlobals mg) (hb : s₁.heap.Ns builtinsNs mb) (hbb : ∀ x : Str, x ≠ "__name__" → mb x = bootBuiltins x) (hlim : s₁.heap.NoLimit) (hg : s₁.gens = #[])
    (ha : s₁.heap.get? a = some { cls := .type "list", data := .seq vs.toArray }) (hi : IntsAre vs ns) (hl : ns.length ≤ sizeLine) (hr : Room k callerA)
    (F : ∀ base : Heap, K.In base → base.Ns mainGlobals mg → FnG P w K mg base CX k fa fd [x] sp) (hbind : ∀ (s : Shared) (u : Value), BindsTo s fd ⟨[u], []⟩ [(x, u)])
    (hsp : ∀ H : Hp, Only H → SqL K H a (ns.map V.int) → sp [.ref a] H (fun v _ => v = .bl true) fun _ _ _ => False)
    (hCX : ∀ H e s', CX [] H s₁ (fun _ _ _ => False) e s' → False) :
    codeAny (model P w) callerA (.call (.ref fa) ⟨[.ref a], []⟩) (fun r s' => r = .ok (.ret (.bool true)) ∧ OldK s₁.heap s'.heap ∧ s'.os = s₁.os ∧ AllBare s'.gens) s₁ := by
  have rv := vals_ints hi
  have lenV := hi.length
  have core : ∀ H : Hp, Only H → SqL K H a (ns.map V.int) → HOk P w H s₁.heap → (∀ b, H b ≠ none → b = a) → (H a ≠ none → K.lookup a = none) →
      codeAny (model P w) callerA (.call (.ref fa) ⟨[.ref a], []⟩) (fun r s' => r = .ok (.ret (.bool true)) ∧ OldK s₁.heap s'.heap ∧ s'.os = s₁.os ∧ AllBare s'.gens) s₁ := by
    intro H hO hS hok hA hK
    have base_of : ∀ {b : Addr} {o : Obj}, s₁.heap.get? b = some o → H b = none → (hidT s₁.heap H).get? b = some o := fun e n => hidT_get e n
    have noA : ∀ {b : Addr} {o : Obj} {es : Array DictEntry} {ep : Nat}, s₁.heap.get? b = some o → o.data = .dict es ep → H b = none := fun {b o es ep} e d => by
      cases q : H b with
      | none => rfl
      | some u =>
        have e' : b = a := hA b (by rw [q]; simp)
        subst e'
        rw [ha] at e; cases e
        have d' : Data.seq vs.toArray _ = Data.dict es ep := d
        cases d'
    have nsK : ∀ {b : Addr} {m : Str → Option Value}, s₁.heap.Ns b m → (hidT s₁.heap H).Ns b m := fun {b m} ⟨o, es, ep, e, d, r⟩ => ⟨o, es, ep, base_of e (noA e d), d, r⟩
    have hKb : K.In (hidT s₁.heap H) := fun b o e => base_of (KX b o e) (by
      cases q : H b with
      | none => rfl
      | some u =>
        have e' : b = a := hA b (by rw [q]; simp)
        subst e'
        rw [hK (by rw [q]; simp)] at e; cases e)
    have hM : Mod K mg (hidT s₁.heap H) := ⟨hKb, nsK hns, ⟨mb, nsK hb, hbb⟩, let ⟨mc, h1, h2⟩ := hlim; ⟨mc, nsK h1, h2⟩⟩
    have e0 : Env0 P w K mg (hidT s₁.heap H) callerA [] s₁ H := ⟨rfl, hM, fun b o e => of_hidT e, Nat.le_of_eq (hidT_size _ _), trivial, fun b hb => absurd (show b ∈ ([] : List Addr) from hb) (by simp), hok, .of_eq hg⟩
    refine codeAny_mono ((F _ hKb (nsK hns)).run callerA [] s₁ H ⟨[.ref a], []⟩ [.ref a] [.ref a] _ _ ⟨hr, rfl⟩ e0 (hbind s₁ (.ref a)) (.cons rfl .nil) (hsp H hO hS)) fun r s' h => ?_
    cases r with
    | error e => exact (hCX H e s' h).elim
    | ok fl =>
      cases fl with
      | next => exact False.elim h
      | brk => exact False.elim h
      | cont => exact False.elim h
      | ret u =>
        obtain ⟨v, H', os, bare, un, hok', r', q⟩ := h
        have q' : v = .bl true := q
        subst q'
        obtain rfl : u = Value.bool true := r'
        refine ⟨rfl, OldK.of_keep fun b o e => ?_, os, bare⟩
        cases q : H b with
        | none => exact un.keep b o e q (by intro z; exact absurd (show b ∈ ([] : List Addr) from z) (by simp)) (by simp)
        | some u =>
          rcases hO b with z | ⟨ob, xs, z⟩
          · rw [q] at z; cases z
          · have z2 := un.frzs b ob _ z
            obtain ⟨e1, _⟩ := hok b _ z
            obtain ⟨e2, _⟩ := hok' b _ z2
            rw [e] at e1; cases e1
            exact e2
  cases hk : K.lookup a with
  | some o =>
    have e := KX a o hk
    rw [ha] at e
    cases e
    refine core (fun _ => none) (fun _ => .inl rfl) (.inr ⟨_, vs.toArray, _, hk, rfl, rfl, rfl, by rw [List.size_toArray, lenV]; exact hl, by simpa using rv⟩) (fun b u z => by have z' : (none : Option HO) = some u := z; cases z') (fun b z => absurd rfl z) fun z => absurd rfl z
  | none =>
    refine core (fun b => if b = a then some (.frz { cls := .type "list", data := .seq vs.toArray } (.lst (ns.map V.int))) else none) (fun b => ?_) (.inl (.inr ⟨{ cls := .type "list", data := .seq vs.toArray }, if_pos rfl⟩)) (fun b u z => ?_) (fun b z => ?_) fun _ => hk
    · by_cases hb : b = a
      · exact .inr ⟨_, _, if_pos hb⟩
      · exact .inl (if_neg hb)
    · by_cases hb : b = a
      · have z' := (if_pos hb).symm.trans z
        cases z'
        subst hb
        exact ⟨ha, by rw [List.length_map]; exact hl, vs, _, rv, ha⟩
      · have z' := (if_neg hb).symm.trans z
        cases z'
    · by_cases hb : b = a
      · exact hb
      · exact absurd (if_neg hb) z
theorem walk_ofG {l : PySem.W.OpenLaw} {n k : Nat} {q : Program} {loose : List Str} {XP : (Str → Option Value) → Heap → Prop} {YP : World → Heap → Prop} {d : DefRec} {K : Params → PySem.W.Frag} {CX : World → CXT} {sp : World → Sp} {x : Str}
    (hn : l.most = some n) (hn2 : n ≤ sizeLine) (hdf : d.params.defaults = []) (hr : Room k callerA)
    (hY : ∀ (w : World) (h : Heap), YP w h → (K w.params).In h)
    (F : ∀ (w : World) (mg : Str → Option Value) (fa : Addr) (h : Heap), (K w.params).In h → h.Ns mainGlobals mg → mg d.name = some (.ref fa) →
      ∃ fd : FuncData, (∀ (s : Shared) (u : Value), BindsTo s fd ⟨[u], []⟩ [(x, u)]) ∧
        ∀ base : Heap, (K w.params).In base → base.Ns mainGlobals mg → FnG l.prog w (K w.params) mg base (CX w) k fa fd [x] (sp w))
    (hsp : ∀ (w : World) (H : Hp) (a : Addr) (ns : List Int), ns.length ≤ n → Only H → SqL (K w.params) H a (ns.map V.int) → sp w [.ref a] H (fun v _ => v = .bl true) fun _ _ _ => False)
    (hCX : ∀ (w : World) (H : Hp) (s : Shared) (e : Value) (s' : Shared), CX w [] H s (fun _ _ _ => False) e s' → False) :
    PySem.W.WalkO q loose XP YP l.row.toRowW d [] (fun f vs => PySem.call f vs) := by
  refine Att.attach_call hn hdf fun w s₀ s₁ mg mb fa o pm cd doc a vs ns G Y ho hd hcd hmg hobj hints hlen hg => ?_
  have KX := hY w _ Y
  obtain ⟨fd, hb, hF⟩ := F w mg fa _ KX G.T.g hmg
  exact law_callG KX G.T.g G.T.b G.T.builtins G.T.nolimit hg hobj hints (Nat.le_trans hlen hn2) hr hF hb (fun H hO hS => hsp w H a ns hlen hO hS) fun H e s' => hCX w H s₁ e s'
end L2

set_option Elab.async false
set_option linter.all false
set_option maxRecDepth 100000
set_option maxHeartbeats 2000000
/-! Readings that compute: each operation told by its values. -/
namespace L2
open PySem PySem.Spec PyProof.Rows

theorem OpR.imp {X : Cx} {f : Value → Value → Sem Value} {r r' : R2} (h : OpR X f r) (k : ∀ x y H Q, r' x y H Q → r x y H Q) : OpR X f r' := fun pins s σ H x y v u Q I rx ry q => h pins s σ H x y v u Q I rx ry (k x y H Q q)
theorem PE.imp {X : Cx} {e : Expr} {t t' : TE} (h : PE X e t) (k : ∀ σ H Q, t' σ H Q → t σ H Q) : PE X e t' := ⟨fun pins s σ H Q I q => h.run pins s σ H Q I (k σ H Q q)⟩
theorem PT.imp {X : Cx} {e : Expr} {t t' : TT} (h : PT X e t) (k : ∀ σ H Q, t' σ H Q → t σ H Q) : PT X e t' := ⟨fun pins s σ H Q I q => h.run pins s σ H Q I (k σ H Q q)⟩
theorem CallR.imp {X : Cx} {f : Value} {r r' : List V → Hp → VK → Prop} (h : CallR X f r) (k : ∀ xs H Q, r' xs H Q → r xs H Q) : CallR X f r' := fun pins s σ H xs us Q I rx q => h pins s σ H xs us Q I rx (k xs H Q q)

/-! ### names -/
def aVar (i : Nat) : TE := fun σ H Q => match σ[i]? with | some (some v) => Q v H | _ => False
theorem av {X : Cx} (i : Nat) {x : Str} {pos : Pos} (hN : X.N[i]? = some x := by rfl) (hv : Vis X.env.scope x := by first | exact Or.inl rfl | exact Or.inr (Or.inl rfl) | exact Or.inr (Or.inr rfl)) (hd : (x == ("__debug__" : Str)) = false := by decide)
    (hcd : (x == ("__classdict__" : Str)) = false := by decide) : PE X (.Name x pos) (aVar i) :=
  (pe_var hN hv hd hcd).imp fun σ H Q h => by
    unfold aVar at h
    split at h
    · rename_i v e
      exact ⟨v, e, h⟩
    · exact h.elim

/-! ### two-place operations -/
def rAddA (K : PySem.W.Frag) : R2 := fun x y H Q => match x, y with
  | .int i, .int j => Q (.int (i + j)) H
  | .int i, .bl k => Q (.int (i + b2i k)) H
  | .str a, .str b => a.length + b.length ≤ sizeLine ∧ Q (.str (a ++ b)) H
  | .ref a, .ref b => rCat (.ref a) (.ref b) H Q ∨ rCatA K (.ref a) (.ref b) H Q
  | _, _ => False
theorem op_addA {X : Cx} : OpR X (binaryOp .Add) (rAddA X.K) := by
  intro pins s σ H x y v u Q I rx ry h
  cases x <;> cases y <;> first
    | exact h.elim
    | exact op_add pins s σ H _ _ v u Q I rx ry ⟨_, _, rfl, rfl, h⟩
    | exact op_add_ib pins s σ H _ _ v u Q I rx ry ⟨_, _, rfl, rfl, h⟩
    | exact op_add_str pins s σ H _ _ v u Q I rx ry ⟨_, _, rfl, rfl, h.1, h.2⟩
    | (rcases h with h | h
       · exact op_cat pins s σ H _ _ v u Q I rx ry h
       · exact op_catA pins s σ H _ _ v u Q I rx ry h)
def rSubA : R2 := fun x y H Q => match x, y with
  | .int i, .int j => Q (.int (i - j)) H
  | _, _ => False
theorem op_subA {X : Cx} : OpR X (binaryOp .Sub) rSubA := by
  intro pins s σ H x y v u Q I rx ry h
  cases x <;> cases y <;> first
    | exact h.elim
    | exact op_sub pins s σ H _ _ v u Q I rx ry ⟨_, _, rfl, rfl, h⟩
/-- *: of ints, one side below 2 ^ 64; a list, a tuple by a number -/
def rMulA : R2 := fun x y H Q => match x, y with
  | .int i, .int j => CMul i j ∧ Q (.int (i * j)) H
  | .ref a, .int k => rRep (.ref a) (.int k) H Q
  | _, _ => False
theorem op_mulA {X : Cx} : OpR X (binaryOp .Mult) rMulA := by
  intro pins s σ H x y v u Q I rx ry h
  cases x <;> cases y <;> first
    | exact h.elim
    | exact op_mul pins s σ H _ _ v u Q I rx ry ⟨_, _, rfl, rfl, h.1, h.2⟩
    | exact op_rep pins s σ H _ _ v u Q I rx ry h
/-- %, // by a positive divisor (below 2 ^ 9000) -/
def rModA : R2 := fun x y H Q => match x, y with
  | .int i, .int j => 0 < j ∧ Q (.int (i % j)) H
  | _, _ => False
theorem op_modA {X : Cx} : OpR X (binaryOp .Mod) rModA := by
  intro pins s σ H x y v u Q I rx ry h
  cases x <;> cases y <;> first
    | exact h.elim
    | exact op_mod pins s σ H _ _ v u Q I rx ry ⟨_, _, rfl, rfl, h.1, h.2⟩
def rFdvA : R2 := fun x y H Q => match x, y with
  | .int i, .int j => CDivW i j ∧ Q (.int (i / j)) H
  | _, _ => False
theorem op_fdvA {X : Cx} : OpR X (binaryOp .FloorDiv) rFdvA := by
  intro pins s σ H x y v u Q I rx ry h
  cases x <;> cases y <;> first
    | exact h.elim
    | exact op_fdivW pins s σ H _ _ v u Q I rx ry ⟨_, _, rfl, rfl, h.1, h.2⟩
def rPowA : R2 := fun x y H Q => match x, y with
  | .int i, .int j => (0 ≤ j ∧ (Builtin.Int.intBits i : Int) * j ≤ 2 ^ 27) ∧ Q (.int (i ^ j.toNat)) H
  | _, _ => False
theorem op_powA {X : Cx} : OpR X (binaryOp .Pow) rPowA := by
  intro pins s σ H x y v u Q I rx ry h
  cases x <;> cases y <;> first
    | exact h.elim
    | (obtain ⟨⟨h1, h2⟩, q⟩ := h
       obtain ⟨t, rfl⟩ := rx
       obtain ⟨t', rfl⟩ := ry
       exact pow_int h1 h2 ⟨.int _, H, I.tok _, ⟨_, rfl⟩, q⟩)

/-! ### comparisons -/
def rCmpI (p : Int → Int → Bool) : R2 := fun x y H Q => match x, y with
  | .int i, .int j => Q (.bl (p i j)) H
  | _, _ => False
theorem op_ltA {X : Cx} : OpR X (compareOp .Lt) (rCmpI fun i j => decide (i < j)) := by
  intro pins s σ H x y v u Q I rx ry h
  cases x <;> cases y <;> first
    | exact h.elim
    | exact op_lt pins s σ H _ _ v u Q I rx ry ⟨_, _, rfl, rfl, h⟩
theorem op_leA {X : Cx} : OpR X (compareOp .LtE) (rCmpI fun i j => decide (i ≤ j)) := by
  intro pins s σ H x y v u Q I rx ry h
  cases x <;> cases y <;> first
    | exact h.elim
    | exact op_le pins s σ H _ _ v u Q I rx ry ⟨_, _, rfl, rfl, h⟩
theorem op_gtA {X : Cx} : OpR X (compareOp .Gt) (rCmpI fun i j => decide (j < i)) := by
  intro pins s σ H x y v u Q I rx ry h
  cases x <;> cases y <;> first
    | exact h.elim
    | exact op_gt pins s σ H _ _ v u Q I rx ry ⟨_, _, rfl, rfl, h⟩
theorem op_geA {X : Cx} : OpR X (compareOp .GtE) (rCmpI fun i j => decide (j ≤ i)) := by
  intro pins s σ H x y v u Q I rx ry h
  cases x <;> cases y <;> first
    | exact h.elim
    | exact op_ge pins s σ H _ _ v u Q I rx ry ⟨_, _, rfl, rfl, h⟩
/-- ==, !=: of ints, texts, bools; else of data -/
def rEqA (K : PySem.W.Frag) : R2 := fun x y H Q => match x, y with
  | .int i, .int j => Q (.bl (decide (i = j))) H
  | .str i, .str j => Q (.bl (decide (i = j))) H
  | .bl i, .bl j => Q (.bl (decide (i = j))) H
  | x, y => rEqD K x y H Q
def rNeA (K : PySem.W.Frag) : R2 := fun x y H Q => match x, y with
  | .int i, .int j => Q (.bl (!decide (i = j))) H
  | .str i, .str j => Q (.bl (!decide (i = j))) H
  | .bl i, .bl j => Q (.bl (!decide (i = j))) H
  | x, y => rNeD K x y H Q
theorem vint_dec {i j : Int} : decide (V.int i = V.int j) = decide (i = j) := by
  by_cases h : i = j
  · subst h; simp
  · have : ¬ V.int i = V.int j := fun e => h (V.int.inj e)
    rw [decide_eq_false h, decide_eq_false this]
theorem vstr_dec {i j : Str} : decide (V.str i = V.str j) = decide (i = j) := by
  by_cases h : i = j
  · subst h; simp
  · have : ¬ V.str i = V.str j := fun e => h (V.str.inj e)
    rw [decide_eq_false h, decide_eq_false this]
theorem vbl_dec {i j : Bool} : decide (V.bl i = V.bl j) = decide (i = j) := by
  cases i <;> cases j <;> rfl
theorem op_eqA {X : Cx} (hu : X.A.units + 64 < cLine) : OpR X (compareOp .Eq) (rEqA X.K) := by
  intro pins s σ H x y v u Q I rx ry h
  unfold rEqA at h
  split at h
  · exact op_eq pins s σ H _ _ v u Q I rx ry ⟨rfl, by rw [vint_dec]; exact h⟩
  · exact op_eq pins s σ H _ _ v u Q I rx ry ⟨rfl, by rw [vstr_dec]; exact h⟩
  · exact op_eq pins s σ H _ _ v u Q I rx ry ⟨rfl, by rw [vbl_dec]; exact h⟩
  · exact op_eqD hu pins s σ H _ _ v u Q I rx ry h
theorem op_neA {X : Cx} (hu : X.A.units + 64 < cLine) : OpR X (compareOp .NotEq) (rNeA X.K) := by
  intro pins s σ H x y v u Q I rx ry h
  unfold rNeA at h
  split at h
  · exact op_ne pins s σ H _ _ v u Q I rx ry ⟨rfl, by rw [vint_dec]; exact h⟩
  · exact op_ne pins s σ H _ _ v u Q I rx ry ⟨rfl, by rw [vstr_dec]; exact h⟩
  · exact op_ne pins s σ H _ _ v u Q I rx ry ⟨rfl, by rw [vbl_dec]; exact h⟩
  · exact op_neD hu pins s σ H _ _ v u Q I rx ry h
/-- a bool as a test -/
def aTest (t : TE) : TT := fun σ H Q => t σ H fun x H' => match x with | .bl k => Q k H' | _ => False
section
variable {X : Cx} {a b c e : Expr} {ta tb tc te : TE} {pos : Pos}
theorem pt_cmpA {op : CmpOp} {r : R2} (ho : OpR X (compareOp op) r) (ha : PE X a ta) (hb : PE X b tb) (hm : behindInMarks op b = false := by first | exact nomark _ | rfl | with_unfolding_all rfl) : PT X (.Compare a [op] [b] pos) (aTest (tOp r ta tb)) := by
  refine ⟨fun pins s σ H Q I h => ?_⟩
  refine wpAny_isTrue_Compare1 (thn (ha.run pins s σ H _ I h) fun v s1 ⟨x, H1, I1, r1, q1⟩ => thn (hb.run pins s1 σ H1 _ I1 q1) fun u s2 ⟨y, H2, I2, r2, q2⟩ =>
    thn (ho pins s2 σ H2 x y v u _ I2 r1 r2 q2) fun c s3 ⟨z, H3, I3, r3, q3⟩ => ?_) hm
  cases z with
  | bl k =>
    cases r3
    exact wpAny_truthy_bool ⟨H3, I3, q3⟩
  | _ => exact q3.elim
theorem pe_cmpA {op : CmpOp} {r : R2} (ho : OpR X (compareOp op) r) (ha : PE X a ta) (hb : PE X b tb) (hm : behindInMarks op b = false := by first | exact nomark _ | rfl | with_unfolding_all rfl) : PE X (.Compare a [op] [b] pos) (tOp r ta tb) := pe_cmpR ho ha hb hm
theorem pt_valA (h : PE X e te) (he : ∀ whole, isTrue e X.env whole = (do let v ← whole; standAt e.pos; holding [v] (truthy v)) := by intro _; rfl) : PT X e (aTest te) := by
  refine ⟨fun pins s σ H Q I hw => ?_⟩
  refine isTrue_plain (thn (h.run pins s σ H _ I hw) fun v s1 ⟨x, H1, I1, r1, q1⟩ => ?_) (he _)
  cases x with
  | bl k =>
    cases r1
    exact wpAny_truthy_bool ⟨H1, I1, q1⟩
  | _ => exact q1.elim

/-! ### items -/
def rIxA (K : PySem.W.Frag) : R2 := fun x y H Q => match x, y with
  | .ref p, .int i => (∃ xs v, SqL K H p xs ∧ atI xs i = some v ∧ Q v H) ∨ ∃ xs v, SqT K H p xs ∧ atI xs i = some v ∧ Q v H
  | .str z, .int i => ∃ c, z.length ≤ sizeLine ∧ atI z.cps.toList i = some c ∧ Q (.str ⟨#[c]⟩) H
  | _, _ => False
theorem IxR.imp {X : Cx} {r r' : R2} (h : IxR X r) (k : ∀ x y H Q, r' x y H Q → r x y H Q) : IxR X r' := by
  unfold IxR at h ⊢
  intros
  refine h _ _ _ _ _ _ _ _ _ _ _ (by assumption) (by assumption) (by assumption) (k _ _ _ _ (by assumption)) (by assumption)
theorem ix_A : IxR X (rIxA X.K) := ix_seq.imp fun x y H Q h => by
  unfold rIxA at h
  split at h
  · rcases h with ⟨xs, v, h1, h2, q⟩ | ⟨xs, v, h1, h2, q⟩
    · exact .inl ⟨_, xs, _, v, rfl, rfl, h1, h2, q⟩
    · exact .inr (.inl ⟨_, xs, _, v, rfl, rfl, h1, h2, q⟩)
  · obtain ⟨c, h1, h2, q⟩ := h
    exact .inr (.inr ⟨_, _, c, rfl, rfl, h1, h2, q⟩)
  · exact h.elim
theorem pe_ixA (ha : PE X a ta) (hb : PE X b tb) (hs : PlainIx b := by exact fun _ _ => rfl) : PE X (.Subscript a b pos) (tOp (rIxA X.K) ta tb) := pe_ix ix_A ha hb hs
/-! ### calls of built-ins -/
def rLenA (K : PySem.W.Frag) : List V → Hp → VK → Prop := fun vs H Q => match vs with
  | [.str y] => y.length ≤ sizeLine ∧ Q (.int (y.length : Int)) H
  | [.ref p] => (∃ xs, SqL K H p xs ∧ Q (.int (xs.length : Int)) H) ∨ ∃ xs, SqT K H p xs ∧ Q (.int (xs.length : Int)) H
  | _ => False
theorem call_lenA : CallR X (.builtin "len") (rLenA X.K) := call_len.imp fun xs H Q h => by
  unfold rLenA at h
  split at h
  · exact ⟨_, _, rfl, ⟨h.1, rfl⟩, h.2⟩
  · rcases h with ⟨ys, h1, q⟩ | ⟨ys, h1, q⟩
    · exact ⟨_, _, rfl, .inl ⟨ys, h1, rfl⟩, q⟩
    · exact ⟨_, _, rfl, .inr ⟨ys, h1, rfl⟩, q⟩
  · exact h.elim
def rAbsA : List V → Hp → VK → Prop := fun vs H Q => match vs with
  | [.int i] => Q (.int (if i < 0 then -i else i)) H
  | _ => False
theorem call_absA : CallR X (.builtin "abs") rAbsA := call_abs.imp fun xs H Q h => by
  unfold rAbsA at h
  split at h
  · exact ⟨_, rfl, h⟩
  · exact h.elim
def rIntA : List V → Hp → VK → Prop := fun vs H Q => match vs with
  | [.int i] => Q (.int i) H
  | [.bl k] => Q (.int (if k then 1 else 0)) H
  | _ => False
theorem call_intA : CallR X (.type "int") rIntA := call_int1.imp fun xs H Q h => by
  unfold rIntA at h
  split at h
  · exact .inl ⟨_, rfl, h⟩
  · exact .inr ⟨_, rfl, h⟩
  · exact h.elim
def rMaxA : List V → Hp → VK → Prop := fun vs H Q => match vs with
  | [.int i, .int j] => Q (.int (if j > i then j else i)) H
  | _ => False
theorem call_maxA (hc : X.calm = true) : CallR X (.builtin "max") rMaxA := (call_max2 hc).imp fun xs H Q h => by
  unfold rMaxA at h
  split at h
  · exact ⟨_, _, rfl, h⟩
  · exact h.elim
def rMinA : List V → Hp → VK → Prop := fun vs H Q => match vs with
  | [.int i, .int j] => Q (.int (if j < i then j else i)) H
  | _ => False
theorem call_minA (hc : X.calm = true) : CallR X (.builtin "min") rMinA := (call_min2 hc).imp fun xs H Q h => by
  unfold rMinA at h
  split at h
  · exact ⟨_, _, rfl, h⟩
  · exact h.elim
end
/-! ### a def of the text, as a caller knows it -/
structure Own (P : Program) (w : World) (K : PySem.W.Frag) (mg : Str → Option Value) (base : Heap) (CX : CXT) (x : Str) (k : Nat) (ps : List Str) (sp : Sp) : Prop where
  ex : ∃ f fd, FnG P w K mg base CX k f fd ps sp ∧ mg x = some (.ref f) ∧ PySem.W.keepIn K (.ref f) = true ∧ Binds K fd ps []
section
variable {X : Cx} {CX : CXT} {k j : Nat} {ps : List Str} {sp : Sp} {x : Str} {p pos : Pos} {e : Expr} {es : List Expr} {t : TA}
theorem Passes0 : Passes CX0 X E0 := pass0
theorem pe_own (O : Own X.prog X.w X.K X.mg X.base CX0 x k ps sp) (hr : RoomG j X.A) (ha : PA X (e :: es) t) (hk : k ≤ j := by decide) (hg : Gl X x := by rfl) (hdb : (x == ("__debug__" : Str)) = false := by decide)
    (he : starEach (e :: es) X.env = (false, eval e X.env) :: starEach es X.env := by rfl) (hpl : (backTo pos (starEach es X.env)).any (·.1) = false := by rfl) : PE X (.Call (.Name x p) (e :: es) [] pos) (tCall sp [] E0 t) := by
  obtain ⟨f, fd, F, hm, hkp, hb⟩ := O.ex
  exact pe_callG F (hr.mono hk) hg hm hkp hb .nil pass0 ha hdb he hpl
theorem pe_own0 (O : Own X.prog X.w X.K X.mg X.base CX0 x k ps sp) (hr : RoomG j X.A) (hk : k ≤ j := by decide) (hg : Gl X x := by rfl) (hdb : (x == ("__debug__" : Str)) = false := by decide) : PE X (.Call (.Name x p) [] [] pos) (tCall sp [] E0 tNil) := by
  obtain ⟨f, fd, F, hm, hkp, hb⟩ := O.ex
  exact pe_call0G F (hr.mono hk) hg hm hkp hb .nil pass0 hdb
end
/-! ### loops -/
theorem for_enum {K : PySem.W.Frag} {a : Addr} {xs : List V} {g : TG} {tb : TS} {D : Ends} {σ : St} {H : Hp} (Pv : Nat → St → Hp → Prop) (h0 : Pv 0 σ H) (hl : ∀ i σ H, i ≤ xs.length → Pv i σ H → SqL K H a xs)
    (hs : ∀ i x T σ H, xs[i]? = some x → Pv i σ H → H T = none → g (.ref T) σ (upd H T (.tup [.int (i : Nat), x])) fun σ2 H2 => tb { D with nx := Pv (i + 1), ct := Pv (i + 1), bk := D.nx } σ2 H2) (hd : ∀ σ H, Pv xs.length σ H → D.nx σ H) :
    ∃ W : Nat → Nat → St → Hp → Prop, (∃ m, W 0 m σ H) ∧ ∀ i m σ H, W i m σ H →
      ((Ite K a).stop i H ∧ D.nx σ H) ∨ ((Ite K a).go i H ∧ ∃ N : St → Hp → Prop, (∀ σ' H', N σ' H' → ∃ m', m' < m ∧ W (i + 1) m' σ' H') ∧ ∀ x H', (Ite K a).yld i H x H' → g x σ H' fun σ2 H2 => tb { D with nx := N, ct := N, bk := D.nx } σ2 H2) := by
  refine ⟨fun i m σ H => m = xs.length - i ∧ i ≤ xs.length ∧ Pv i σ H, ⟨xs.length, by simp, Nat.zero_le _, h0⟩, ?_⟩
  rintro i m σ H ⟨rfl, hi, p⟩
  have q := hl i σ H hi p
  by_cases hlt : i < xs.length
  · refine .inr ⟨⟨xs, xs[i], q, by simp [hlt]⟩, Pv (i + 1), fun σ' H' p' => ⟨xs.length - (i + 1), by omega, rfl, hlt, p'⟩, fun v H' y => ?_⟩
    obtain ⟨T, x, rfl, hT, rfl, y⟩ := y
    exact hs i x T σ H (y xs q) p hT
  · have e : i = xs.length := by omega
    subst e
    exact .inl ⟨⟨xs, q, Nat.le_refl _⟩, hd σ H p⟩
/-- a pair in two names -/
theorem tup2 {K : PySem.W.Frag} {T : Addr} {x y : V} {H : Hp} {t u : TG} {σ : St} {Q : St → Hp → Prop} (h : t x σ (upd H T (.tup [x, y])) fun σ' H' => u y σ' H' Q) : gTup K 2 (gCons t (gCons u gNil)) (.ref T) σ (upd H T (.tup [x, y])) Q := by
  refine ⟨T, [x, y], rfl, SqT.of upd_same, rfl, x, [y], rfl, ?_⟩
  have m : ∀ (P P' : St → Hp → Prop), P = P' → t x σ (upd H T (.tup [x, y])) P → t x σ (upd H T (.tup [x, y])) P' := fun P P' e q => e ▸ q
  refine m _ _ ?_ h
  funext σ' H'
  refine propext ⟨fun q => ⟨y, [], rfl, ?_⟩, fun ⟨v, r, e, q⟩ => ?_⟩
  · refine Eq.mp (congrArg (u y σ' H') (funext fun a => funext fun b => propext ⟨fun z => ⟨rfl, z⟩, fun z => z.2⟩)) q
  · cases e
    exact Eq.mp (congrArg (u y σ' H') (funext fun a => funext fun b => propext ⟨fun z => z.2, fun z => ⟨rfl, z⟩⟩)) q
theorem Same.new {H H' : Hp} {p : Addr} {o : HO} (s : Same H H') (h : H' p = none) : Same H (upd H' p o) := fun b u e => by
  rw [upd_ne (ne_of_none (s b u e) h)]
  exact s b u e
theorem RoomG.units64 {k : Nat} {A : PySem.Around} (hr : RoomG k A) : A.units + 64 < PySem.cLine := hr.r.units
theorem pow_ok {i j : Int} (h1 : -(2 ^ 64) < i) (h2 : i < 2 ^ 64) (h3 : 0 ≤ j) (h4 : j ≤ 100) : 0 ≤ j ∧ (PySem.Builtin.Int.intBits i : Int) * j ≤ 2 ^ 27 := by
  have h := PySem.intBits_le_64 h1 h2
  refine ⟨h3, ?_⟩
  have : (PySem.Builtin.Int.intBits i : Int) * j ≤ 64 * 100 := Int.mul_le_mul (by omega) h4 h3 (by decide)
  omega
theorem big_pos : (0 : Int) < ((10 : Int) ^ Int.toNat 60) ^ Int.toNat 13 := by decide +kernel
theorem big_bits : 0 ≤ (13 : Int) ∧ (PySem.Builtin.Int.intBits ((10 : Int) ^ Int.toNat 60) : Int) * 13 ≤ 2 ^ 27 := by decide +kernel
/-- a statement, then the rest, with a word between them -/
def tCut (t u : TS) : TS := fun D σ H => ∃ Mid : St → Hp → Prop, t { D with nx := Mid } σ H ∧ ∀ σ' H', Mid σ' H' → u D σ' H'
theorem pss_cut {X : Cx} {st : Stmt} {rest : List Stmt} {t u : TS} (h1 : PS X st t) (h2 : PSs X rest u) : PSs X (st :: rest) (tCut t u) := by
  refine ⟨fun pins s σ H D I h => ?_⟩
  obtain ⟨Mid, hm, hu⟩ := h
  refine wpAny_execs_cons (thn (h1.run pins s σ H { D with nx := Mid } I hm) fun f s1 q => ?_)
  cases f with
  | next =>
    obtain ⟨σ', H', I', q⟩ := q
    exact h2.run pins s1 σ' H' D I' (hu σ' H' q)
  | ret v => exact q
  | brk => exact q
  | cont => exact q
end L2

set_option Elab.async false
set_option linter.all false
set_option maxRecDepth 100000
set_option maxHeartbeats 4000000
/-! Own exception classes straight over a built-in one, with an __init__ that calls the built-in's and stores one field. -/
namespace PySem
namespace KX
open PySem.W PySem.Calls PyProof.Rows PySem.HandSPX Builtin Builtin.ObjectAttr

/-- the built-in __init__ of a class -/
structure XIni (B initId : String) : Prop where
  plain : plainId initId = true
  entry : entryFor table initId = some Builtin.«BaseException.__init__»
  kind : builtinKind initId = some .slot
  split : splitId initId = some (B, "__init__")
  row : Manifest.signature? initId = some ⟨.positional, "*", B, .self, [⟨"args", .varPos, false⟩]⟩
  noStar : (B != "*") = true
theorem ini_of {B newId initId : String} {bm : List Value} (F : ExcBaseFacts B newId initId bm) : XIni B initId := ⟨F.init.plain, F.initEntry, F.initKind, F.initSplit, F.initRow, F.noStar⟩
theorem ini_KeyError : XIni "KeyError" "KeyError.__init__" :=
  ⟨PyProof.Rows.excClass_KeyError.init.plain, PyProof.Rows.excClass_KeyError.initEntry, PyProof.Rows.excClass_KeyError.initKind, PyProof.Rows.excClass_KeyError.initSplit, PyProof.Rows.excClass_KeyError.initSig, PyProof.Rows.excClass_KeyError.notStar⟩
abbrev tKey : List Value := [.type "KeyError", .type "LookupError", .type "Exception", .type "BaseException", .type "object"]
abbrev tLookup : List Value := [.type "LookupError", .type "Exception", .type "BaseException", .type "object"]
abbrev tIndex : List Value := [.type "IndexError", .type "LookupError", .type "Exception", .type "BaseException", .type "object"]
abbrev tOverflow : List Value := [.type "OverflowError", .type "ArithmeticError", .type "Exception", .type "BaseException", .type "object"]
abbrev tRuntime : List Value := [.type "RuntimeError", .type "Exception", .type "BaseException", .type "object"]
/-- what the model says of the built-in chain bm, made by newId (of Bn), begun by initId (of Bi) -/
structure XB (Bi newId initId : String) (bm : List Value) : Prop where
  fn : ∃ (Bn I0 : String) (bm0 : List Value), ExcBaseFacts Bn newId I0 bm0 ∧ bm.contains (.type Bn) = true
  ini : XIni Bi initId
  hasI : bm.contains (.type Bi) = true
  noA : bm.contains (.type "AttributeError") = false
  noN : bm.contains (.type "NameError") = false
  obj : bm.contains (.type "object") = true
  pass : ∀ self : Value, refuseLoop self "__setattr__" bm = pure ()
theorem xb_KeyError : XB "KeyError" "LookupError.__new__" "KeyError.__init__" tKey where
  fn := ⟨_, _, _, F.excBase_LookupError, by decide +kernel⟩
  ini := ini_KeyError
  hasI := by decide +kernel
  noA := by decide +kernel
  noN := by decide +kernel
  obj := by decide +kernel
  pass := fun self => by kernel_rfl
theorem xb_LookupError : XB "LookupError" "LookupError.__new__" "LookupError.__init__" tLookup where
  fn := ⟨_, _, _, F.excBase_LookupError, by decide +kernel⟩
  ini := ini_of F.excBase_LookupError
  hasI := by decide +kernel
  noA := by decide +kernel
  noN := by decide +kernel
  obj := by decide +kernel
  pass := fun self => by kernel_rfl
theorem xb_IndexError : XB "IndexError" "IndexError.__new__" "IndexError.__init__" tIndex where
  fn := ⟨_, _, _, F.excBase_IndexError, by decide +kernel⟩
  ini := ini_of F.excBase_IndexError
  hasI := by decide +kernel
  noA := by decide +kernel
  noN := by decide +kernel
  obj := by decide +kernel
  pass := fun self => by kernel_rfl
theorem xb_OverflowError : XB "OverflowError" "OverflowError.__new__" "OverflowError.__init__" tOverflow where
  fn := ⟨_, _, _, F.excBase_OverflowError, by decide +kernel⟩
  ini := ini_of F.excBase_OverflowError
  hasI := by decide +kernel
  noA := by decide +kernel
  noN := by decide +kernel
  obj := by decide +kernel
  pass := fun self => by kernel_rfl
theorem xb_RuntimeError : XB "RuntimeError" "RuntimeError.__new__" "RuntimeError.__init__" tRuntime where
  fn := ⟨_, _, _, F.excBase_RuntimeError, by decide +kernel⟩
  ini := ini_of F.excBase_RuntimeError
  hasI := by decide +kernel
  noA := by decide +kernel
  noN := by decide +kernel
  obj := by decide +kernel
  pass := fun self => by kernel_rfl

section
variable {M : Model} {A : Around} {E : Value → Shared → Prop} {h : Heap} {g : Array GenState} {d : Drawn} {t : Nat} {os : OsState}
variable {nm q : Str} {C N : Addr} {bs bm bmB : List Value} {hdct : Bool} {sn : List Str} {sub : List Value} {ab : Bool} {col : Option Bool} {dd : Option Addr} {k0 k1 k2 k3 k5 : Option Value} {B newId initId : String}
theorem check_newX (F : ExcBaseFacts B newId initId bmB) (hB : bm.contains (.type B) = true) {rest : List Value} {Q : Unit → Shared → Prop}
    (hC : h.get? C = some (excClassObj nm q C N bs bm hdct sn sub ab col dd k0 k1 k2 k3 k5 newId)) (hq : Q () ⟨h, g, d, t, os⟩) : wpAny M A (checkBuiltinCall newId ⟨.ref C :: rest, []⟩) Q E ⟨h, g, d, t, os⟩ := by
  have hcont : (Value.ref C :: bm).contains (.type B) = true := by rw [List.contains_cons, hB, Bool.or_true]
  have hstar := F.noStar
  simp only [checkBuiltinCall, F.newKind, F.newSplit, F.newRow]
  repeat (first | refine wpAny_loadPart_at hC ?_ | (refine wpAny_isSubtype_exc hC ?_; rw [hcont]) | refine wpAny_staticBase_exc hC ?_ | refine wpAny_madeBy_exc hC ?_ | simp only [bne_self_eq_false, Bool.false_eq_true, if_false] | wp_step)
  exact hq
theorem check_initX (F : XIni B initId) (hB : bm.contains (.type B) = true) {e : Addr} {oe : Obj} {rest : List Value} {Q : Unit → Shared → Prop}
    (hC : h.get? C = some (excClassObj nm q C N bs bm hdct sn sub ab col dd k0 k1 k2 k3 k5 newId)) (he : h.get? e = some oe) (hcls : oe.cls = .ref C) (hq : Q () ⟨h, g, d, t, os⟩) :
    wpAny M A (checkBuiltinCall initId ⟨.ref e :: rest, []⟩) Q E ⟨h, g, d, t, os⟩ := by
  have hcB : (Value.ref C :: bm).contains (.type B) = true := by rw [List.contains_cons, hB, Bool.or_true]
  have hshort := F.noStar
  simp only [checkBuiltinCall, F.kind, F.split, F.row]
  repeat (first | (with_reducible refine wpAny_loadPart_at he ?_; rw [hcls]) | with_reducible refine wpAny_loadPart_at hC ?_ | (with_reducible refine wpAny_isSubtype_exc hC ?_; rw [hcB]) | wp_step)
  refine wpAny_onRaise ?_
  rw [show ∀ (a b : String) (n : Nat), Bind.check ⟨.positional, "*", B, .self, [⟨"args", .varPos, false⟩]⟩ a b n (List.map (fun x => x.fst) ({ pos := Value.ref e :: rest } : Args).kw) = pure () from
    fun a b n => check_star_args _ _ _ _ _ _]
  exact wpAny_pure hq
end
section
variable {prog : Program} {w : World} {A : Around} {E : Value → Shared → Prop} {R : Result → Shared → Prop} {h : Heap} {g : Array GenState} {d : Drawn} {t : Nat} {os : OsState}
variable {nm q : Str} {C N : Addr} {bs bm bmB : List Value} {hdct : Bool} {sn : List Str} {sub : List Value} {ab : Bool} {col : Option Bool} {dd : Option Addr} {k0 k1 k2 k3 k5 : Option Value} {B newId initId : String}
theorem newX (F : ExcBaseFacts B newId initId bmB) (hB : bm.contains (.type B) = true) (hA : bm.contains (.type "AttributeError") = false) (hN : bm.contains (.type "NameError") = false) {rest : List Value}
    (hC : h.get? C = some (excClassObj nm q C N bs bm hdct sn sub ab col dd k0 k1 k2 k3 k5 newId))
    (hq : R (.ok (.ret (.ref (h.objs.size + 1)))) ⟨(h.push { cls := .type "tuple", data := .seq rest.toArray }).push
      { cls := .ref C, data := .fields #[.ref h.objs.size, .none, .none, .none, .bool false, .none] }, g, d, t, os⟩) (hrest : rest.length ≤ sizeLine) :
    codeAny (model prog w) A (.builtin newId ⟨.ref C :: rest, []⟩) R ⟨h, g, d, t, os⟩ := by
  have hends := F.ends
  have hcB : (Value.ref C :: bm).contains (.type B) = true := by rw [List.contains_cons, hB, Bool.or_true]
  have hcA : (Value.ref C :: bm).contains (.type "AttributeError") = false := by rw [List.contains_cons, hA]; rfl
  have hcN : (Value.ref C :: bm).contains (.type "NameError") = false := by rw [List.contains_cons, hN]; rfl
  refine codeAny_builtinAt F.entry ?_
  unfold Builtin.«BaseException.__new__»
  refine wpAt_bind ?_
  show wpAt _ _ _ (stack >>= _) _ _ _
  refine wpAt_bind (wpAt_stack fun p below => wpAt_of_wpAny ?_)
  wp_walk
  refine wpAt_of_wpAny ?_
  rw [F.owner]
  repeat (first | with_reducible refine wpAny_madeHere_exc F.canon hC ?_ | with_reducible refine wpAny_loadPart_at hC ?_ | (with_reducible refine wpAny_isSubtype_exc hC ?_; first | rw [hcB] | rw [hcA] | rw [hcN]) | wp_step)
  show R _ _
  rw [Heap.size_push]
  exact hq
theorem type_callX (F : ExcBaseFacts B newId initId bmB) (hB : bm.contains (.type B) = true) (hA : bm.contains (.type "AttributeError") = false) (hN : bm.contains (.type "NameError") = false) {rest : List Value} {fI : Addr} {Q : Fin → Shared → Prop}
    (hC : h.get? C = some (excClassObj nm q C N bs bm hdct sn sub ab col dd k0 k1 k2 k3 k5 newId))
    (hi : W.Looks (model prog w) h (typeLookup (.ref C) "__init__") (some (.ref fI))) (hb : ∀ self, W.Looks (model prog w) h (bindSpecial (.ref fI) self) (.ref fI, [self])) (hrest : rest.length ≤ sizeLine)
    (hq : codeAny (model prog w) A (.call (.ref fI) ⟨.ref (h.objs.size + 1) :: rest, []⟩)
      (fun r s' => match r with | .ok (.ret v) => v = .none ∧ Q (.done (.ret (.ref (h.objs.size + 1)))) s' | .ok _ => False | .error e => E e s')
      ⟨(h.push (W.kdv_tup rest)).push (excO C h.objs.size), g, d, t, os⟩) :
    wpAny (model prog w) A (Builtin.«type.__call__» ⟨.ref C :: rest, []⟩) Q E ⟨h, g, d, t, os⟩ := by
  repeat (first | with_reducible refine wpAny_loadPart_at hC ?_ | with_reducible refine wpAny_madeBy_exc hC ?_ | wp_step)
  refine codeAny_call_builtin_code (Code.quiet_builtin _ F.quiet) (check_newX F hB hC ?_)
  refine newX F hB hA hN hC ?_ hrest
  show wpAny _ _ _ _ _ _
  have k : ∀ b o, h.get? b = some o → ((h.push (W.kdv_tup rest)).push (excO C h.objs.size)).get? b = some o := fun b o e => Heap.get?_push_of_some _ (Heap.get?_push_of_some _ e)
  have hC₁ := k _ _ hC
  have hget : ((h.push (W.kdv_tup rest)).push (excO C h.objs.size)).get? (h.objs.size + 1) = some (excO C h.objs.size) := by heap_get
  have hcC : (Value.ref C :: bm).contains (.ref C) = true := by simp
  have i1 := hi.keeps k
  have b1 := (hb (.ref (h.objs.size + 1))).keeps k
  unfold isInstance
  repeat (first | with_reducible refine wpAny_loadPart_at hget ?_ | (with_reducible refine wpAny_isSubtype_exc hC₁ ?_; rw [hcC]) | wp_step)
  show wpAny _ _ (typeLookup (.ref C) _) _ _ _
  refine i1.at ?_
  refine wpAny_holding (wpAny_bind (b1.at ?_))
  refine wpAny_bind (wpAny_call (codeAny_mono hq fun r s' z => ?_))
  rcases r with e | (v | _ | _ | _) <;> first | exact z | exact z.elim | skip
  obtain ⟨rfl, z⟩ := z
  first
    | exact wpAny_pure (wpAny_pure z)
    | (wp_walk; exact z)
theorem callX (F : ExcBaseFacts B newId initId bmB) (hB : bm.contains (.type B) = true) (hA : bm.contains (.type "AttributeError") = false) (hN : bm.contains (.type "NameError") = false) {rest : List Value} {fI : Addr}
    (hC : h.get? C = some (excClassObj nm q C N bs bm hdct sn sub ab col dd k0 k1 k2 k3 k5 newId))
    (hi : W.Looks (model prog w) h (typeLookup (.ref C) "__init__") (some (.ref fI))) (hb : ∀ self, W.Looks (model prog w) h (bindSpecial (.ref fI) self) (.ref fI, [self])) (hrest : rest.length ≤ sizeLine)
    (hq : codeAny (model prog w) (A.under (.builtin "type.__call__" ⟨.ref C :: rest, []⟩)) (.call (.ref fI) ⟨.ref (h.objs.size + 1) :: rest, []⟩) (W.InitBack (h.objs.size + 1) R)
      ⟨(h.push (W.kdv_tup rest)).push (excO C h.objs.size), g, d, t, os⟩) :
    codeAny (model prog w) A (.call (.ref C) ⟨rest, []⟩) R ⟨h, g, d, t, os⟩ := by
  have f1 := tc_lookup
  have f2 := tc_bind (.ref C)
  have hTy : (⟨h, g, d, t, os⟩ : Shared).TypeIs (.ref C) "type" := ⟨_, hC, rfl⟩
  refine codeAny_of_tree ?_
  show wpAny _ _ (callAny (.ref C) _) _ _ _
  repeat (any_goals (first | assumption | with_reducible refine wpAny_loadPart_at hC ?_ | wp_step))
  refine ⟨rfl, ?_⟩
  refine codeAny_call_builtin_at (Code.quiet_builtin _ (by decide +kernel)) entry_typeCall (wpAny_check_type_call_sub hC (type_callX F hB hA hN hC hi hb hrest ?_))
  refine codeAny_mono hq fun r s' z => ?_
  rcases r with e | (v | _ | _ | _) <;> exact z
theorem init_baseX (F : XIni B initId) (hB : bm.contains (.type B) = true) {e t0 : Addr} {rest : List Value}
    (hC : h.get? C = some (excClassObj nm q C N bs bm hdct sn sub ab col dd k0 k1 k2 k3 k5 newId)) (he : h.get? e = some (excO C t0)) (hrest : rest.length ≤ sizeLine)
    (hq : ∀ h' t1, (∀ b o, b ≠ e → h.get? b = some o → h'.get? b = some o) → h'.get? e = some (excO C t1) → R (.ok (.ret .none)) ⟨h', g, d, t, os⟩) :
    codeAny (model prog w) A (.call (.builtin initId) ⟨.ref e :: rest, []⟩) R ⟨h, g, d, t, os⟩ := by
  refine codeAny_call_builtin F.plain F.entry (check_initX F hB hC he rfl ?_)
  wp_walk
  refine hq _ h.objs.size (fun b o hb ho => ?_) ?_
  · rw [Heap.get?_update_other _ _ (Ne.symm hb)]
    exact Heap.get?_push_of_some _ ho
  · rw [Heap.get?_update_self _ (Heap.get?_push_of_some _ he) rfl]
    rfl
end
section
variable {prog : Program} {w : World} {A : Around} {E : Value → Shared → Prop} {R : Result → Shared → Prop} {hp : Heap} {g : Array GenState} {d : Drawn} {t : Nat} {os : OsState}
theorem exc_osaX {K : W.Frag} {name : Str} {tk : Tok} {v : Value} {x C : Addr} {fv : Array Value} {cd : ClassData} {bm : List Value}
    (X : K.In hp) (hx : hp.get? x = some { cls := .ref C, data := .fields fv }) (hcd : W.clsIn K C = some cd) (hm : cd.mro = .ref C :: bm) (hpass : ∀ self : Value, refuseLoop self "__setattr__" bm = pure ()) (hobj : bm.contains (.type "object") = true)
    (hh : cd.hasDict = true) (ha : W.findIn K (.ref C) name = some none)
    (hq : ∀ h' tk' dx, (∀ b o, b ≠ x → hp.get? b = some o → h'.get? b = some o) → hp.objs.size ≤ dx → dx ≠ x → h'.get? x = some { cls := .ref C, dict := some dx, data := .fields fv } →
      h'.Ns1 dx (fun y => if y = name then some v else none) → R (.ok (.ret .none)) ⟨h', g, d, tk', os⟩) :
    codeAny (model prog w) A (.call (.builtin "object.__setattr__") ⟨[.ref x, .str name tk, v], []⟩) R ⟨hp, g, d, t, os⟩ := by
  have I : W.InstAt hp x { cls := .ref C, data := .fields fv } C none := ⟨hx, rfl, rfl, trivial⟩
  have SF := F.store_object
  have ne : cd.mro.isEmpty = false := by rw [hm]; rfl
  have hob : cd.mro.contains (.type "object") = true := by rw [hm, List.contains_cons, hobj, Bool.or_true]
  have hxs : x ≠ hp.objs.size := Nat.ne_of_lt (Heap.lt_size hx)
  have sub : W.Looks (model prog w) hp (isInstance (.ref x) (.type "object")) true := I.type.andThen (W.looks_mroIn X (by unfold W.mroIn; rw [hcd, Option.bind_some, if_neg (by rw [ne]; decide), hob]))
  refine codeAny_call_builtin SF.slot.plain SF.entry (@W.check_slot (model prog w) _ _ ⟨hp, g, d, t, os⟩ "object.__setattr__" "object" "__setattr__" (.ref x) [.str name tk, v] [] _ SF.kind SF.split sub (SF.args (.ref x) (.str name tk) v) ?_)
  have hmr : W.Looks (model prog w) hp (mroOf (.ref C)) cd.mro := (W.looks_clsIn X hcd).andThen .now
  have L3 : W.Looks (model prog w) hp (storeTaker? none) none := .now
  have hcls : W.Looks (model prog w) hp (classData C) cd := W.looks_clsIn X hcd
  rw [W.osa_eq, refuse_eq]
  refine wpAny_bind (wpAny_bind (I.type.at (wpAny_bind (hmr.at ?_))))
  rw [hm, refuseLoop_ref, hpass]
  refine wpAny_pure (wpAny_bind (I.type.at (wpAny_bind ((W.looks_findIn X ha).at (wpAny_bind (L3.at ?_))))))
  show wpAny _ _ (storeInOwnDict (.ref x) (.ref C) (.str name tk) name v false) _ _ _
  obtain ⟨nm, bs, mro, ns, qn, hd, sn, sb, ab, col, del⟩ := cd
  dsimp only at hh
  subst hh
  unfold storeInOwnDict ownDictForStores
  repeat (first | with_reducible refine store_in_new ?_ ?_ | with_reducible refine wpAny_loadPart_at hx ?_ | with_reducible refine hcls.at ?_ | wp_step)
  · exact ⟨_, #[], _, (Heap.get?_update_ne _ _ _ _ hxs.symm).trans (Heap.get?_push_at rfl rfl), rfl, fun e he => absurd he (by simp), fun _ => rfl⟩
  · intro h' tk' hn' hs
    have hx₁ : (hp.push { cls := .type "dict", data := .dict #[] }).get? x = some { cls := .ref C, data := .fields fv } := Heap.get?_push_of_some _ hx
    refine hq h' tk' hp.objs.size (fun b o hb ho => ?_) (Nat.le_refl _) hxs.symm ?_ hn'
    · exact (hs.2 b (Nat.ne_of_lt (Heap.lt_size ho))).trans ((Heap.get?_update_ne _ _ _ _ hb).trans (Heap.get?_push_of_some _ ho))
    · exact (hs.2 x hxs).trans (Heap.get?_update_self _ hx₁ rfl)
end
end KX
end PySem

namespace L2
open PySem PySem.Spec PyProof.Rows PySem.KX
/-- what the written part says of an own class over bm with its own __init__ -/
structure XCls (K : PySem.W.Frag) (C : Addr) (newId : String) (bm : List Value) : Prop where
  cls : ∃ nm q N bs sn sub ab col dd k0 k1 k2 k3 k5, K.lookup C = some (excClassObj nm q C N bs bm true sn sub ab col dd k0 k1 k2 k3 k5 newId)
  sa : PySem.W.findIn K (.ref C) "__setattr__" = some (some (.builtin "object.__setattr__"))
  exC : PySem.W.subIn K (.ref C) (.type "BaseException") = some true
  tyC : PySem.W.typeIn K (.ref C) = some (.type "type")
  kC : PySem.W.keepIn K (.ref C) = true
section
variable {X : Cx} {pins : List (Addr × Obj)} {σ : St} {H : Hp} {s : Shared} {a C dx : Addr} {f : Str} {y : V} {u : Value} {fs : List (Str × V)} {Q : Unit → Shared → Prop} {E : Value → Shared → Prop} {A : Around} {Bi newId initId : String} {bm : List Value}
theorem ost_newX (B : XB Bi newId initId bm) (T : XCls X.K C newId bm) (I : Inv X pins σ H s) (e : H a = some (exo a C none)) (hno : PySem.W.findIn X.K (.ref C) f = some none) (ry : RelV y u)
    (h : ∀ dx s', H dx = none → dx ≠ a → Inv X pins σ (upd (upd H dx (exd dx [(f, y)])) a (exo a C (some dx))) s' → Q () s') : wpAny (model X.prog X.w) A (setAttr (.ref a) f u) Q E s := by
  obtain ⟨nm, q, N, bs, sn, sub, ab, col, dd, k0, k1, k2, k3, k5, hC⟩ := T.cls
  have hcl : PySem.W.clsIn X.K C = some { name := nm, bases := bs, mro := .ref C :: bm, ns := N, qualname := q, hasDict := true, slotNames := sn, subclasses := sub, abstract := ab, collection := col, hasDel := false } := by unfold PySem.W.clsIn; rw [hC] <;> rfl
  obtain ⟨t1, ho⟩ := exo_at I.hok e
  obtain ⟨hp, g, d, t, os⟩ := s
  refine PySem.W.set_plain I.kIn (ox := { cls := .ref C, dict := none, data := .fields #[.ref t1, .none, .none, .none, .bool false, .none] }) (od := none) ⟨ho, rfl, rfl, trivial⟩ T.sa ?_
  refine PySem.KX.exc_osaX I.kIn ho hcl rfl B.pass B.obj rfl hno (fun h' tk' dx k dn dne hx hn => ?_)
  have hnd : H dx = none := I.hok.fresh dn
  have nd : ∀ {b : Addr} {o : Obj}, hp.get? b = some o → b ≠ dx := fun {b o} q => Nat.ne_of_lt (Nat.lt_of_lt_of_le (Heap.lt_size q) dn)
  have na : ∀ {b : Addr}, H b = none → b ≠ a := fun {b} n z => by
    rw [z, e] at n
    cases n
  have Un1 : Un X.fs [] H (upd (upd H dx (exd dx [(f, y)])) a (exo a C (some dx))) hp h' := {
    keep := fun b o q n _ _ => k b o (na n) q
    slot := fun b o q n _ _ => ⟨o.slots, k b o (na n) q⟩
    free := fun b o q n _ => by rw [upd_ne (na n), upd_ne (nd q)]; exact n
    there := fun b o q _ => by
      by_cases hb : b = a
      · exact ⟨_, by rw [hb]; exact hx⟩
      · exact ⟨o, k b o hb q⟩
    tups := fun b xs q => by rw [upd_ne (at_ne e q exo_tup), upd_ne (ne_of_none q hnd)]; exact q
    frzs := fun b o v q => by rw [upd_ne (at_ne e q exo_frz), upd_ne (ne_of_none q hnd)]; exact q
    tbls := fun b ps q => ⟨#[], by rw [upd_ne (at_ne e q exo_tbl), upd_ne (ne_of_none q hnd), q]; simp⟩ }
  refine h dx _ hnd dne (I.un (t' := tk') Un1 fun b o q => ?_)
  by_cases hb : b = a
  · subst hb
    rw [upd_same] at q
    cases q
    exact exo_ok hx
  · rw [upd_ne hb] at q
    by_cases hd : b = dx
    · subst hd
      rw [upd_same] at q
      cases q
      exact exd_ok hn (relO_put (fs := []) ry fun g => True.intro)
    · rw [upd_ne hd] at q
      exact (I.hok b o q).stay (fun c v hc z => k c v (by
          rcases hc with hc | hc
          · rw [hc]
            exact hb
          · exact at_ne e hc exo_own) z)
        (fun c hc => by rw [upd_ne (at_ne e hc exo_own), upd_ne (ne_of_none hc hnd)]; exact hc) (fun c xs hc => by rw [upd_ne (at_ne e hc exo_tup), upd_ne (ne_of_none hc hnd)]; exact hc)
theorem oinit_okX {us : List Value} {Q : Value → Shared → Prop} (B : XB Bi newId initId bm) (T : XCls X.K C newId bm) (I : Inv X pins σ H s) (e : H a = some (exo a C none)) (hl : us.length ≤ sizeLine) (h : ∀ s', Inv X pins σ H s' → Q .none s') :
    wpAny (model X.prog X.w) A (call (.builtin initId) (.ref a :: us)) Q E s := by
  obtain ⟨nm, q, N, bs, sn, sub, ab, col, dd, k0, k1, k2, k3, k5, hC⟩ := T.cls
  obtain ⟨t1, ho⟩ := exo_at I.hok e
  obtain ⟨hp, g, d, t, os⟩ := s
  refine wpAny_call (PySem.KX.init_baseX B.ini B.hasI (I.kIn _ _ hC) ho hl fun h' t2 k hx => ?_)
  have J := I.write (t' := t) (x := a) (e := a) (o := exo a C none) (by rw [e]; exact True.intro) (.inl rfl) k ⟨_, hx⟩ (exo_ok hx)
  have eu : upd H a (exo a C none) = H := by
    funext b
    by_cases hb : b = a
    · rw [hb, upd_same, e]
    · rw [upd_ne hb]
  rw [eu] at J
  exact h _ J
end
/-- KeyError.__init__(self, ..) and its like -/
def tXI (K : PySem.W.Frag) (newId : String) (bm : List Value) (ta : TA) : TE := fun σ H Q => ta σ H fun vs H1 => ∃ (a C : Addr) (ws : List V), vs = .ref a :: ws ∧ ws.length ≤ 1000 ∧ XCls K C newId bm ∧ H1 a = some (exo a C none) ∧ Q .non H1
/-- self.f = e, the first one -/
def tXS (K : PySem.W.Frag) (newId : String) (bm : List Value) (f : Str) (to te : TE) : TS := fun D σ H => te σ H fun y H1 => to σ H1 fun x H2 => ∃ a C : Addr, x = .ref a ∧ XCls K C newId bm ∧ PySem.W.findIn K (.ref C) f = some none ∧
  H2 a = some (exo a C none) ∧ ∀ dx, H2 dx = none → dx ≠ a → D.nx σ (upd (upd H2 dx (exd dx [(f, y)])) a (exo a C (some dx)))
section
variable {X : Cx} {o e : Expr} {es : List Expr} {to te : TE} {ta : TA} {f : Str} {p p' p1 p2 pos : Pos} {Bi newId initId : String} {bm : List Value}
end
end L2

set_option Elab.async false
set_option linter.all false
set_option maxRecDepth 100000
set_option maxHeartbeats 4000000
namespace L2
open PySem PySem.Spec PyProof.Rows PySem.KX
section
variable {X : Cx} {o e : Expr} {es : List Expr} {to te : TE} {ta : TA} {f : Str} {p p' p1 p2 pos : Pos} {Bi newId initId : String} {bm : List Value}
theorem pe_xini {x : Str} {pl : Sem Bool} (B : XB Bi newId initId bm) (hm : X.mg x = none) (hbt : bootBuiltins x = some (.type Bi)) (hty : typeOf (.type Bi) = pure (.type "type")) (hst : Manifest.isStub Bi = false) (hh : PySem.W.handedIn (.builtin initId) = true)
    (vV : PySem.W.findCls X.K (.type Bi) (.type "type") "__init__" = some (.val (.builtin initId))) (ha : PA X (e :: es) ta) (hg : Gl X x := by rfl) (hn : x ≠ "__name__" := by decide) (hdb : (x == ("__debug__" : Str)) = false := by decide)
    (hc : eval (.Call (.Attribute (.Name x p1) "__init__" p2) (e :: es) [] pos) X.env = (do
      let ov ← eval (.Name x p1) X.env
      standAt p2.atName
      let (f, first) ← holding [ov] (getMethod ov "__init__" pl)
      callWith pos f first (backTo pos (starEach (e :: es) X.env)) (backToKw pos (keywordEach [] X.env))) := by rfl)
    (he : starEach (e :: es) X.env = (false, eval e X.env) :: starEach es X.env := by rfl) (hpl : (backTo pos (starEach es X.env)).any (·.1) = false := by rfl) :
    PE X (.Call (.Attribute (.Name x p1) "__init__" p2) (e :: es) [] pos) (tXI X.K newId bm ta) := by
  refine ⟨fun pins s σ H Q I h => ?_⟩
  refine PySem.W.methodCall_KW (ld_blt I hg hm hbt ?_ hn hdb) hc
  obtain ⟨m, fr⟩ := I.fr
  refine PySem.W.method_type fr I.ok.mod.kin hty hst vV hh ?_
  show wpAny _ _ (callWith pos (Value.builtin initId) [] (backTo pos (starEach (e :: es) X.env)) []) _ _ _
  refine PyProof.Rows.callWith_method1 (thn (ha.run pos pins _ σ H _ (I.tok _) h) fun us s1 ⟨vs, H1, I1, r1, a, C, ws, ev, hl, T, ea, q⟩ => ?_) he hpl
  subst ev
  cases r1 with
  | @cons _ u0 _ ur ra rw' =>
    obtain rfl : u0 = Value.ref a := ra
    have hlen : ur.length ≤ sizeLine := by
      rw [← Paired.length rw', sizeLine_eq]
      omega
    exact oinit_okX B T I1 ea hlen fun s' J => ⟨.non, H1, J, rfl, q⟩
theorem ps_xs (B : XB Bi newId initId bm) (ho : PE X o to) (he : PE X e te) (hs : swapsWith e (some (.Attribute o f p')) pos.line X.env = pure false := by rfl) : PS X (.Assign [.Attribute o f p'] e pos) (tXS X.K newId bm f to te) := by
  refine ⟨fun pins s σ H D I h => ?_⟩
  refine plainObj_wpAny_Assign_Attribute (thn (he.run pins s σ H _ I h) fun v s1 ⟨y, H1, I1, r1, q1⟩ => thn (ho.run pins s1 σ H1 _ I1 q1) fun u s2 ⟨x, H2, I2, r2, a, C, ex, T, hno, ea, q⟩ => ?_) hs
  subst ex
  obtain rfl : u = Value.ref a := r2
  exact ost_newX B T I2 ea hno r1 fun dx s' n ne J => ⟨σ, _, J, q dx n ne⟩
/-- C(e, ..) as a value, C's own __init__ keeping sp -/
def tMkV (C : Addr) (sp : Sp) (ta : TA) : TE := fun σ H Q => ta σ H fun vs H1 => vs.length ≤ 1000 ∧ ∀ a, H1 a = none → sp (.ref a :: vs) (upd H1 a (exo a C none)) (fun v H2 => v = .non ∧ Q (.ref a) H2) (fun _ _ _ => False)
theorem run_oexX {CX : CXT} {C fI : Addr} {k : Nat} {fd : FuncData} {ps : List Str} {sp : Sp} (B : XB Bi newId initId bm) (T : XCls X.K C newId bm) (iC : PySem.W.findIn X.K (.ref C) "__init__" = some (some (.ref fI))) (tI : PySem.W.typeIn X.K (.ref fI) = some (.type "function"))
    (F1 : FnOk X.prog X.w X.K X.mg X.base CX k fI fd ps sp) (hr : Room (k + 1) X.A) (hb : Binds X.K fd ps []) (hx : Passes CX X (fun _ _ _ => False)) {pins : List (Addr × Obj)} {σ : St} {H1 : Hp} {vs : List V} {us : List Value} {hp : Heap} {g : Array GenState} {dr : Drawn} {tk : Nat} {os : OsState} {R : V → Hp → Prop}
    {Q : Value → Shared → Prop}
    (I1 : Inv X pins σ H1 ⟨hp, g, dr, tk, os⟩) (r1 : Vals vs us) (hz : vs.length ≤ 1000) (hq : sp (.ref (hp.objs.size + 1) :: vs) (upd H1 (hp.objs.size + 1) (exo (hp.objs.size + 1) C none)) R (fun _ _ _ => False))
    (fin : ∀ u s', Inv X pins σ (upd H1 (hp.objs.size + 1) (exo (hp.objs.size + 1) C none)) ⟨(hp.push (PySem.W.kdv_tup us)).push (PySem.HandSPX.excO C hp.objs.size), g, dr, tk, os⟩ →
      CE X.stack X.prog X.w (upd H1 (hp.objs.size + 1) (exo (hp.objs.size + 1) C none)) ⟨(hp.push (PySem.W.kdv_tup us)).push (PySem.HandSPX.excO C hp.objs.size), g, dr, tk, os⟩ R u s' → u = .none ∧ Q (.ref (hp.objs.size + 1)) s') :
    wpAny (model X.prog X.w) X.A (call (.ref C) us) Q X.xe ⟨hp, g, dr, tk, os⟩ := by
  obtain ⟨nm, q, N, bs, sn, sub, ab, col, dd, k0, k1, k2, k3, k5, hC⟩ := T.cls
  obtain ⟨Bn, I0, bm0, FB, hB⟩ := B.fn
  have hsz : hp.objs.size ≤ hp.objs.size + 1 := Nat.le_succ _
  have kk : ∀ b o, hp.get? b = some o → ((hp.push (PySem.W.kdv_tup us)).push (PySem.HandSPX.excO C hp.objs.size)).get? b = some o := fun b o e => Heap.get?_push_of_some _ (Heap.get?_push_of_some _ e)
  have hget : ((hp.push (PySem.W.kdv_tup us)).push (PySem.HandSPX.excO C hp.objs.size)).get? (hp.objs.size + 1) = some (PySem.HandSPX.excO C hp.objs.size) := by heap_get
  have I2 : Inv X pins σ (upd H1 (hp.objs.size + 1) (exo (hp.objs.size + 1) C none)) ⟨(hp.push (PySem.W.kdv_tup us)).push (PySem.HandSPX.excO C hp.objs.size), g, dr, tk, os⟩ :=
    I1.laid (t' := tk) (a := hp.objs.size + 1) (o := exo (hp.objs.size + 1) C none) (h' := (hp.push (PySem.W.kdv_tup us)).push (PySem.HandSPX.excO C hp.objs.size)) kk hsz (exo_ok hget)
  have r2 : Vals (V.ref (hp.objs.size + 1) :: vs) (Value.ref (hp.objs.size + 1) :: us) := .cons rfl r1
  have hl : (Value.ref (hp.objs.size + 1) :: us).length = ps.length := by
    have e := r2.length
    rw [F1.len _ _ _ _ hq] at e
    exact e.symm
  have hus : us.length ≤ sizeLine := by
    rw [← Paired.length r1, sizeLine_eq]
    omega
  have hb2 := hb ⟨(hp.push (PySem.W.kdv_tup us)).push (PySem.HandSPX.excO C hp.objs.size), g, dr, tk, os⟩ (Value.ref (hp.objs.size + 1) :: us) I2.kIn (by rw [List.append_nil]; exact hl)
  rw [List.append_nil] at hb2
  refine wpAny_call (PySem.KX.callX FB hB B.noA B.noN (I1.kIn _ _ hC) (PySem.W.looks_findIn I1.kIn iC) (fun self => PySem.W.bind_fn I1.kIn self tI) hus
    (codeAny_mono (F1.run _ X.stack _ _ ⟨Value.ref (hp.objs.size + 1) :: us, []⟩ (Value.ref (hp.objs.size + 1) :: us) _ _ (fun _ _ _ => False) (hr.make C us []) (I2.env0.make C us []) hb2 r2 hq) fun r s' hq' => ?_))
  cases r with
  | error er => exact hx pins σ _ _ er s' I2 hq'
  | ok fl =>
    cases fl with
    | ret u => exact fin u s' I2 hq'
    | next => exact False.elim hq'
    | brk => exact False.elim hq'
    | cont => exact False.elim hq'
theorem pe_oexX {CX : CXT} {x : Str} {C fI : Addr} {k : Nat} {fd : FuncData} {ps : List Str} {sp : Sp} (B : XB Bi newId initId bm) (T : XCls X.K C newId bm) (iC : PySem.W.findIn X.K (.ref C) "__init__" = some (some (.ref fI))) (tI : PySem.W.typeIn X.K (.ref fI) = some (.type "function"))
    (F1 : FnOk X.prog X.w X.K X.mg X.base CX k fI fd ps sp) (hr : Room (k + 1) X.A) (hb : Binds X.K fd ps []) (hx : Passes CX X (fun _ _ _ => False)) (hm : X.mg x = some (.ref C)) (ha : PA X (e :: es) ta) (hg : Gl X x := by rfl)
    (hdb : (x == ("__debug__" : Str)) = false := by decide) (he : starEach (e :: es) X.env = (false, eval e X.env) :: starEach es X.env := by rfl) (hpl : (backTo pos (starEach es X.env)).any (·.1) = false := by rfl) :
    PE X (.Call (.Name x p) (e :: es) [] pos) (tMkV C sp ta) := by
  refine ⟨fun pins s σ H Q I h => ?_⟩
  refine wpAny_Call_Name_kw (ld_glob I hg hm ?_ hdb)
  refine PySem.W.callWith_K (h₀ := X.base) I.ok.mod.kin T.kC (thn (ha.run pos pins s σ H _ I h) fun us s1 ⟨vs, H1, I1, r1, hz, q1⟩ => ⟨I1.kIn, ?_⟩) he hpl
  obtain ⟨hp, g, dr, tk, os⟩ := s1
  refine run_oexX B T iC tI F1 hr hb hx I1 r1 hz (q1 _ (I1.hok.fresh (Nat.le_succ _))) fun u s' I2 hq' => ?_
  obtain ⟨v, H', I3, rv, ev, q3⟩ := I2.after hq'
  subst ev
  exact ⟨rv, ⟨V.ref (hp.objs.size + 1), H', ⟨I3.ok, I3.os, I3.bare, I3.base, I3.loc, I3.cell, I3.free, I3.freeC, I3.pin, I3.hok, I3.len⟩, rfl, q3⟩⟩
end
end L2

set_option Elab.async false
set_option linter.all false
set_option maxRecDepth 100000
set_option maxHeartbeats 4000000
namespace L2
open PySem PySem.Spec PyProof.Rows PySem.KX
section
variable {X : Cx} {o e : Expr} {es : List Expr} {to te : TE} {ta : TA} {f : Str} {p p' p1 p2 pos : Pos} {Bi newId initId : String} {bm : List Value}
/-- raise C(e, ..): the error's own dict is new -/
def tMkX (C : Addr) (sp : Sp) (ta : TA) : St → Hp → XK → Prop := fun σ H Q => ta σ H fun vs H1 => vs.length ≤ 1000 ∧ ∀ a, H1 a = none → sp (.ref a :: vs) (upd H1 a (exo a C none))
  (fun v H2 => v = .non ∧ ∃ (d : Addr) (fs : List (Str × V)), H2 a = some (exo a C (some d)) ∧ H2 d = some (exd d fs) ∧ H1 d = none ∧ Q (.ref C) (some d) (upd (del H2 a) d (.xd fs))) (fun _ _ _ => False)
theorem pmk_oexX {CX : CXT} {x : Str} {C fI : Addr} {k : Nat} {fd : FuncData} {ps : List Str} {sp : Sp} (B : XB Bi newId initId bm) (T : XCls X.K C newId bm) (iC : PySem.W.findIn X.K (.ref C) "__init__" = some (some (.ref fI))) (tI : PySem.W.typeIn X.K (.ref fI) = some (.type "function"))
    (F1 : FnOk X.prog X.w X.K X.mg X.base CX k fI fd ps sp) (hr : Room (k + 1) X.A) (hb : Binds X.K fd ps []) (hx : Passes CX X (fun _ _ _ => False)) (hm : X.mg x = some (.ref C)) (ha : PA X (e :: es) ta) (hg : Gl X x := by rfl)
    (hdb : (x == ("__debug__" : Str)) = false := by decide) (he : starEach (e :: es) X.env = (false, eval e X.env) :: starEach es X.env := by rfl) (hpl : (backTo pos (starEach es X.env)).any (·.1) = false := by rfl) :
    PMk X (.Call (.Name x p) (e :: es) [] pos) (tMkX C sp ta) := by
  intro pins s σ H Q I h
  refine wpAny_Call_Name_kw (ld_glob I hg hm ?_ hdb)
  refine PySem.W.callWith_K (h₀ := X.base) I.ok.mod.kin T.kC (thn (ha.run pos pins s σ H _ I h) fun us s1 ⟨vs, H1, I1, r1, hz, q1⟩ => ⟨I1.kIn, ?_⟩) he hpl
  obtain ⟨hp, g, dr, tk, os⟩ := s1
  have kk : ∀ b o, hp.get? b = some o → ((hp.push (PySem.W.kdv_tup us)).push (PySem.HandSPX.excO C hp.objs.size)).get? b = some o := fun b o e => Heap.get?_push_of_some _ (Heap.get?_push_of_some _ e)
  refine run_oexX B T iC tI F1 hr hb hx I1 r1 hz (q1 _ (I1.hok.fresh (Nat.le_succ _))) fun u s' I2 hq' => ?_
  obtain ⟨v, H2, os2, bare2, un2, hok2, rv, ev, d, fs, ea, ed, hd1, q2⟩ := hq'
  subst ev
  obtain ⟨h2, g2, d2, t2, os'⟩ := s'
  exact ⟨rv, mk_end (raises_own T.exC T.tyC) I1 (Nat.le_succ _) kk un2 hok2 os2 bare2 ea ed hd1 q2⟩
/-- e.f, e an exception held as a value -/
def tXA (K : PySem.W.Frag) (f : Str) (te : TE) : TE := fun σ H Q => te σ H fun x H1 => ∃ (a C d : Addr) (fs : List (Str × V)) (v : V), x = .ref a ∧ H1 a = some (exo a C (some d)) ∧ H1 d = some (exd d fs) ∧ XfC K C ∧ PySem.W.findIn K (.ref C) f = some none ∧ fs.lookup f = some v ∧ Q v H1
theorem pe_attr {n : Str} (he : PE X e te) (hb : attributeBase e n X.env (eval e X.env) = eval e X.env := by rfl) : PE X (.Attribute e n pos) (tXA X.K n te) := by
  refine ⟨fun pins s σ H Q I h => ?_⟩
  refine attr_of hb (thn (he.run pins s σ H _ I h) fun u s1 hh => ?_)
  obtain ⟨x, H1, I1, rx, a, C, d, fs, v, ex, ea, ed, T, hno, l, q⟩ := hh
  subst ex
  obtain rfl : u = Value.ref a := rx
  obtain ⟨t1, ho⟩ := exo_at I1.hok ea
  obtain ⟨mA, hns, hr⟩ := exd_at I1.hok ed
  obtain ⟨od, hod, hl⟩ := lookIn_ns hns
  obtain ⟨u, hu, ru⟩ := RelO.some_of (v := v) (o := mA n) (by rw [← l]; exact hr n)
  have J : PySem.W.InstAt s1.heap a ({ cls := .ref C, dict := some d, data := .fields #[.ref t1, .none, .none, .none, .bool false, .none] } : Obj) C (some od) := ⟨ho, rfl, rfl, hod⟩
  exact HandSPX.exc_get I1.kIn J T.ga T.gg T.exC (PySem.W.findObj_own T.hdC hno rfl (by rw [hl, hu])) (handed_of ru) ⟨v, H1, I1.tok _, ru, q⟩
/-- an exception with one argument (its tuple at t), no dict -/
def exM (C t a : Addr) : HO := .ext fun h => h.get? a = some ({ cls := .ref C, dict := none, data := .fields #[.ref t, .none, .none, .none, .bool false, .none] } : Obj)
theorem exM_ok {P : Program} {w : World} {H : Hp} {h : Heap} {a C t : Addr} (he : h.get? a = some ({ cls := .ref C, dict := none, data := .fields #[.ref t, .none, .none, .none, .bool false, .none] } : Obj)) : ObjOk P w H h a (exM C t a) :=
  ⟨he, ⟨_, he⟩, fun h1 h2 z k => k _ z⟩
theorem exM_at {P : Program} {w : World} {H : Hp} {h : Heap} {a C t : Addr} (hok : HOk P w H h) (he : H a = some (exM C t a)) : h.get? a = some ({ cls := .ref C, dict := none, data := .fields #[.ref t, .none, .none, .none, .bool false, .none] } : Obj) := by
  have x : ObjOk P w H h a (.ext fun h => h.get? a = some ({ cls := .ref C, dict := none, data := .fields #[.ref t, .none, .none, .none, .bool false, .none] } : Obj)) := hok a _ he
  exact x.1
/-- X(e), an own exception class without own __init__, as a value -/
def tXM (C : Addr) (te : TE) : TE := fun σ H Q => te σ H fun v H1 => ∀ t a, H1 t = none → H1 a = none → a ≠ t → Q (.ref a) (upd (upd H1 t (.tup [v])) a (exM C t a))
theorem pe_excT {C : Addr} {bmB : List Value} {B newId initId : String} {x : Str} {e : Expr} {te : TE} {p pos : Pos} (F : ExcBaseFacts B newId initId bmB) (q : PySem.W.excIn X.K C bmB newId = true) (gC : X.mg x = some (.ref C)) (kC : PySem.W.keepIn X.K (.ref C) = true) (he : PE X e te) (hg : Gl X x := by rfl)
    (hs : starEach [e] X.env = (false, eval e X.env) :: starEach [] X.env := by rfl) (hdb : (x == ("__debug__" : Str)) = false := by decide) :
    PE X (.Call (.Name x p) [e] [] pos) (tXM C te) := by
  refine ⟨fun pins s σ H Q I h => ?_⟩
  refine wpAny_Call_Name_kw (ld_glob I hg gC ?_ hdb)
  refine PySem.W.callWith_K (h₀ := X.base) I.ok.mod.kin kC ?_ hs (by rfl)
  rw [hs]
  show wpAny _ _ (spliced ((false, eval e X.env) :: backTo pos (starEach [] X.env))) _ _ s
  refine Calls.spliced_cons (thn (he.run pins s σ H _ I h) fun u s1 ⟨v, H1, I1, r1, q1⟩ => ?_)
  refine Calls.spliced_nil ⟨I1.kIn, ?_⟩
  show wpAny _ _ (call (.ref C) [u]) _ _ _
  obtain ⟨bm, N, nm, qn, bs, hdct, sn, sub, ab, col, dd, k0, k1, k2, k3, k5, mN, hC, hN, hni, T⟩ := exc_obj I1.kIn q
  refine wpAny_call_exc_subT F T hC hN hni (fun h' a hm => ?_) (by show 1 ≤ sizeLine; rw [sizeLine_eq]; omega)
  have hn : H1 a = none := I1.hok.gone hm.new
  obtain ⟨t, ha, hnt, ht⟩ := hm.there
  have htn : H1 t = none := I1.hok.gone hnt
  have hat : a ≠ t := fun z => by
    rw [z, ht] at ha
    cases ha
  -- first the arguments, then the exception
  have un : Un X.fs [] H1 (upd (upd H1 t (.tup [v])) a (exM C t a)) s1.heap h' := {
    keep := fun b o z n _ _ => hm.keeps b o z
    slot := fun b o z n _ _ => ⟨o.slots, hm.keeps b o z⟩
    free := fun b o z n _ => by
      have nb : b ≠ a := fun y => by rw [y, hm.new] at z; cases z
      have nt : b ≠ t := fun y => by rw [y, hnt] at z; cases z
      rw [upd_ne nb, upd_ne nt]; exact n
    there := fun b o z _ => ⟨o, hm.keeps b o z⟩
    tups := fun b xs z => by rw [upd_ne (ne_of_none z hn), upd_ne (ne_of_none z htn)]; exact z
    frzs := fun b o u z => by rw [upd_ne (ne_of_none z hn), upd_ne (ne_of_none z htn)]; exact z
    tbls := fun b ps z => ⟨#[], by rw [upd_ne (ne_of_none z hn), upd_ne (ne_of_none z htn), z]; simp⟩ }
  have ok2 : HOk X.prog X.w (upd (upd H1 t (.tup [v])) a (exM C t a)) h' := fun b o z => by
    by_cases hb : b = a
    · subst hb
      rw [upd_same] at z
      cases z
      exact exM_ok ha
    · rw [upd_ne hb] at z
      by_cases hb2 : b = t
      · subst hb2
        rw [upd_same] at z
        cases z
        refine ⟨by show 1 ≤ sizeLine; rw [sizeLine_eq]; omega, [u], .cons r1 .nil, ⟨_, ht, rfl, _, rfl⟩⟩
      · rw [upd_ne hb2] at z
        exact (I1.hok b o z).stay (fun c w' _ y => hm.keeps c w' y) (fun c y => by rw [upd_ne (ne_of_none y hn), upd_ne (ne_of_none y htn)]; exact y) fun c xs y => by rw [upd_ne (ne_of_none y hn), upd_ne (ne_of_none y htn)]; exact y
  exact ⟨.ref a, _, I1.un (t' := s1.toks) un ok2, rfl, q1 t a htn hn hat⟩
/-- what isinstance asks of an own exception class -/
structure XI (K : PySem.W.Frag) (C : Addr) : Prop where
  cl : (PySem.W.clsIn K C).isSome = true
  ga : PySem.W.findIn K (.ref C) "__getattribute__" = some (some (.builtin "BaseException.__getattribute__"))
  gg : PySem.W.findIn K (.ref C) "__getattr__" = some none
  ex : PySem.W.subIn K (.ref C) (.type "BaseException") = some true
  ca : PySem.W.findIn K (.ref C) "__class__" = some (some (.builtin "object.__class__"))
  cn : PySem.W.specialIn K (.builtin "object.__class__") "__get__" = some (some (.builtin "getset_descriptor.__get__"))
  ct : PySem.W.takesIn K (.builtin "object.__class__") = some true
  mo : PySem.W.mroIn K C (.type "object") = some true
def xiB (K : PySem.W.Frag) (C : Addr) : Bool := (PySem.W.clsIn K C).isSome && (decide (PySem.W.findIn K (.ref C) "__getattribute__" = some (some (.builtin "BaseException.__getattribute__"))) && (decide (PySem.W.findIn K (.ref C) "__getattr__" = some none) &&
  (decide (PySem.W.subIn K (.ref C) (.type "BaseException") = some true) && (decide (PySem.W.findIn K (.ref C) "__class__" = some (some (.builtin "object.__class__"))) && (decide (PySem.W.specialIn K (.builtin "object.__class__") "__get__" = some (some (.builtin "getset_descriptor.__get__"))) &&
  (decide (PySem.W.takesIn K (.builtin "object.__class__") = some true) && decide (PySem.W.mroIn K C (.type "object") = some true)))))))
theorem xiB_ok {K : PySem.W.Frag} {C : Addr} (h : xiB K C = true) : XI K C := by
  obtain ⟨h1, h⟩ := Bool.and_eq_true_iff.mp h
  obtain ⟨h2, h⟩ := Bool.and_eq_true_iff.mp h
  obtain ⟨h3, h⟩ := Bool.and_eq_true_iff.mp h
  obtain ⟨h4, h⟩ := Bool.and_eq_true_iff.mp h
  obtain ⟨h5, h⟩ := Bool.and_eq_true_iff.mp h
  obtain ⟨h6, h⟩ := Bool.and_eq_true_iff.mp h
  obtain ⟨h7, h8⟩ := Bool.and_eq_true_iff.mp h
  exact ⟨h1, of_decide_eq_true h2, of_decide_eq_true h3, of_decide_eq_true h4, of_decide_eq_true h5, of_decide_eq_true h6, of_decide_eq_true h7, of_decide_eq_true h8⟩
/-- a value's type, exceptions of own classes too -/
inductive TyE (K : PySem.W.Frag) (H : Hp) : V → Value → Prop where
  | x {v : V} {t : Value} (h : TyX K H v t) : TyE K H v t
  | m {a C t : Addr} (e : H a = some (exM C t a)) (c : XI K C) : TyE K H (.ref a) (.ref C)
  | o {a C d : Addr} {fs : List (Str × V)} (e : H a = some (exo a C (some d))) (ed : H d = some (exd d fs)) (c : XI K C) : TyE K H (.ref a) (.ref C)
/-- isinstance(x, c), c a class -/
def rIsiE (K : PySem.W.Frag) : List V → Hp → VK → Prop := fun xs H Q => ∃ (x c : V) (t u : Value) (b : Bool), xs = [x, c] ∧ ClsV c u ∧ TyE K H x t ∧ PySem.W.kitOne K t u = some b ∧ Q (.bl b) H
theorem call_isiA : CallR X (.builtin "isinstance") (rIsiE X.K) := by
  intro pins s σ H xs us Q I r h
  obtain ⟨x, c, t, u, b, rfl, k, ty, e, q⟩ := h
  cases ty with
  | x ty => exact call_isi pins s σ H _ us Q I r ⟨x, c, t, u, b, rfl, k, ty, e, q⟩
  | @m a C t1 ea T =>
    obtain ⟨u1, u2, rfl, r1, r2⟩ := vals2 r
    have e2 := k.eq r2
    subst e2
    obtain rfl : u1 = Value.ref a := r1
    have ho := exM_at I.hok ea
    exact PySem.W.kia_one (PySem.W.kitx_exc (od := none) T.cl T.ga T.gg T.ex T.ca T.cn T.ct T.mo) I.kIn ⟨ho, rfl, rfl, trivial⟩ e (fun z => nomatch z) fun tk => ⟨.bl b, H, I.tok tk, rfl, q⟩
  | @o a C d fs ea ed T =>
    obtain ⟨u1, u2, rfl, r1, r2⟩ := vals2 r
    have e2 := k.eq r2
    subst e2
    obtain rfl : u1 = Value.ref a := r1
    obtain ⟨t1, ho⟩ := exo_at I.hok ea
    obtain ⟨mA, hns, hr⟩ := exd_at I.hok ed
    obtain ⟨od, hod, hl⟩ := lookIn_ns hns
    exact PySem.W.kia_one (PySem.W.kitx_exc (od := some od) T.cl T.ga T.gg T.ex T.ca T.cn T.ct T.mo) I.kIn ⟨ho, rfl, rfl, hod⟩ e (fun z => nomatch z) fun tk => ⟨.bl b, H, I.tok tk, rfl, q⟩
/-- str(x): of a text; of an exception made with one text -/
def rStrA (K : PySem.W.Frag) : List V → Hp → VK → Prop := fun xs H Q => match xs with
  | [.str a] => Q (.str a) H
  | [.ref a] => ∃ (C t : Addr) (m : Str), H a = some (exM C t a) ∧ H t = some (.tup [.str m]) ∧ PySem.W.findIn K (.ref C) "__str__" = some (some (.builtin "BaseException.__str__")) ∧ PySem.W.subIn K (.ref C) (.type "BaseException") = some true ∧ Q (.str m) H
  | _ => False
theorem call_strA (hu : X.A.units + 64 < cLine) : CallR X (.type "str") (rStrA X.K) := by
  intro pins s σ H xs us Q I r h
  unfold rStrA at h
  split at h
  · exact SkE.call_str_str pins s σ H _ us Q I r ⟨_, rfl, h⟩
  · rename_i a
    obtain ⟨C, t, m, ea, et, hs, hB, q⟩ := h
    obtain ⟨u, rfl, ru⟩ := vals1 r
    obtain rfl : u = Value.ref a := ru
    have ho := exM_at I.hok ea
    obtain ⟨its, rv, ⟨ot, hot, hc, n, hd⟩, _⟩ := I.tuple (SqT.of et)
    cases rv with
    | cons r1 r2 =>
      cases r2
      obtain ⟨tk, rfl⟩ := r1
      exact PySem.P.str_of_C_one (by omega) ⟨I.kIn, _, _, ho, rfl, rfl, rfl⟩ ⟨ot, n, hot, hc, hd⟩ hs hB ⟨.str m, H, I, ⟨tk, rfl⟩, q⟩
  · exact h.elim
/-- repr(x) of data -/
def rReprD (K : PySem.W.Frag) : List V → Hp → VK → Prop := fun xs H Q => ∃ (a : Addr) (d : PyData), xs = [.ref a] ∧ Dp K H (.ref a) d ∧ d.showable = true ∧ d.hasDict = false ∧ d.depth ≤ 60 ∧ d.shown.length ≤ sizeLine ∧ Q (.str d.shown) H
theorem call_reprA {k : Nat} (hr : RoomG k X.A) : CallR X (.builtin "repr") (rReprD X.K) := by
  intro pins s σ H xs us Q I r h
  obtain ⟨a, d, rfl, hd, h1, h2, h3, h4, q⟩ := h
  obtain ⟨u, rfl, ru⟩ := vals1 r
  obtain rfl : u = Value.ref a := ru
  obtain ⟨as, rd⟩ := Dp.reads I d _ _ hd rfl
  have hu := hr.units64
  exact repr_of_reads' (h₀ := s.heap) rd h1 (PyData.noDict_hsm h2) hr.g (by omega) (fun _ _ e => e) (fun h' u tk hk => ⟨.str d.shown, H, I.kept (t' := tk) hk, ⟨u, rfl⟩, q⟩) h4
end
end L2

set_option Elab.async false
set_option linter.all false
set_option maxRecDepth 100000
set_option maxHeartbeats 4000000
/-! Data on the abstract heap. -/
namespace L2
open PySem PySem.Spec PyProof.Rows PySem.KX
section
variable {K : PySem.W.Frag} {H H' : Hp} {v : V} {vs : List V} {d : PyData} {ds : List PyData}
theorem Same.rd {H H' : Hp} {a : Addr} {u : HO} (e : Same H H') (h : Rd H a u) : Rd H' a u := by
  rcases h with h | ⟨o, h⟩
  · exact .inl (e _ _ h)
  · exact .inr ⟨o, e _ _ h⟩
theorem Same.sqT {a : Addr} {xs : List V} (e : Same H H') (h : SqT K H a xs) : SqT K H' a xs := by
  rcases h with h | h
  · exact .inl (e.rd h)
  · exact .inr h
theorem Same.sqL {a : Addr} {xs : List V} (e : Same H H') (h : SqL K H a xs) : SqL K H' a xs := e.seq h
mutual
theorem Dp.same (e : Same H H') : ∀ (d : PyData) (v : V), Dp K H v d → Dp K H' v d
  | .none, _, h => by cases h; exact .non
  | .bool b, _, h => by cases h; exact .bl b
  | .int i, _, h => by cases h; exact .int i
  | .str x, _, h => by cases h; exact .str x
  | .list ds, _, h => by
    cases h with
    | lst hs ha => exact .lst (e.sqL hs) (DpAll.same e ds _ ha)
  | .tuple ds, _, h => by
    cases h with
    | tup hs ha => exact .tup (e.sqT hs) (DpAll.same e ds _ ha)
  | .dict _, _, h => by cases h
theorem DpAll.same (e : Same H H') : ∀ (ds : List PyData) (vs : List V), DpAll K H vs ds → DpAll K H' vs ds
  | [], _, h => by cases h; exact .nil
  | d :: ds, _, h => by
    cases h with
    | cons h1 h2 => exact .cons (Dp.same e d _ h1) (DpAll.same e ds _ h2)
end
theorem DpAll.length : ∀ {vs : List V} {ds : List PyData}, DpAll K H vs ds → vs.length = ds.length
  | _, _, .nil => rfl
  | _, _, .cons _ t => congrArg (· + 1) (DpAll.length t)
theorem DpAll.get : ∀ {vs : List V} {ds : List PyData} {i : Nat} {v : V}, DpAll K H vs ds → vs[i]? = some v → ∃ d, ds[i]? = some d ∧ Dp K H v d
  | _, _, i, v, .nil, e => by simp at e
  | _, _, 0, v, .cons h _, e => by
    simp at e
    subst e
    exact ⟨_, rfl, h⟩
  | _, _, i + 1, v, .cons _ t, e => by
    obtain ⟨d, h1, h2⟩ := DpAll.get (i := i) (v := v) t (by simpa using e)
    exact ⟨d, by simpa using h1, h2⟩
theorem DpAll.snoc : ∀ {vs : List V} {ds : List PyData}, DpAll K H vs ds → Dp K H v d → DpAll K H (vs ++ [v]) (ds ++ [d])
  | _, _, .nil, h => .cons h .nil
  | _, _, .cons h1 t, h => .cons h1 (DpAll.snoc t h)
theorem depth_mem : ∀ {ds : List PyData} {i : Nat} {d : PyData}, ds[i]? = some d → d.depth ≤ PyData.depthAll ds
  | [], i, d, e => by simp at e
  | x :: xs, 0, d, e => by
    simp at e
    subst e
    simp only [PyData.depthAll]
    exact Nat.le_max_left _ _
  | x :: xs, i + 1, d, e => by
    have := depth_mem (ds := xs) (i := i) (d := d) (by simpa using e)
    simp only [PyData.depthAll]
    exact Nat.le_trans this (Nat.le_max_right _ _)
/-- the name of a datum's type -/
def tyOfD : PyData → String
  | .none => "NoneType"
  | .bool _ => "bool"
  | .int _ => "int"
  | .str _ => "str"
  | .list _ => "list"
  | .tuple _ => "tuple"
  | .dict _ => "dict"
theorem Dp.ty (h : Dp K H v d) : TyE K H v (.type (tyOfD d)) := by
  cases h with
  | non => exact .x (.base .non)
  | bl b => exact .x (.base (.bl b))
  | int i => exact .x (.base (.int i))
  | str x => exact .x (.base (.str x))
  | lst hs ha =>
    rcases hs with (hs | ⟨o, hs⟩) | ⟨o, its, n, hk, hc, _⟩
    · exact .x (.base (.lst hs))
    · exact .x (.base (.frz hs))
    · exact .x (.kList hk hc)
  | tup hs ha =>
    rcases hs with (hs | ⟨o, hs⟩) | ⟨o, its, n, hk, hc, _⟩
    · exact .x (.base (.tup hs))
    · exact .x (.fTuple hs)
    · exact .x (.kTuple hk hc)
mutual
/-- at most 1000 items in each list and tuple -/
def smallD : PyData → Bool
  | .list xs => decide (xs.length ≤ 1000) && smallAll xs
  | .tuple xs => decide (xs.length ≤ 1000) && smallAll xs
  | .dict _ => false
  | .none => true
  | .bool _ => true
  | .int _ => true
  | .str _ => true
def smallAll : List PyData → Bool
  | [] => true
  | x :: xs => smallD x && smallAll xs
end
theorem small_lst {ds : List PyData} (h : smallD (.list ds) = true) : ds.length ≤ 1000 ∧ smallAll ds = true := by
  simp only [smallD, Bool.and_eq_true, decide_eq_true_eq] at h
  exact h
theorem small_tup {ds : List PyData} (h : smallD (.tuple ds) = true) : ds.length ≤ 1000 ∧ smallAll ds = true := by
  simp only [smallD, Bool.and_eq_true, decide_eq_true_eq] at h
  exact h
theorem small_mem : ∀ {ds : List PyData} {i : Nat} {d : PyData}, smallAll ds = true → ds[i]? = some d → smallD d = true
  | [], i, d, _, e => by simp at e
  | x :: xs, 0, d, h, e => by
    simp at e
    subst e
    simp only [smallAll, Bool.and_eq_true] at h
    exact h.1
  | x :: xs, i + 1, d, h, e => by
    simp only [smallAll, Bool.and_eq_true] at h
    exact small_mem (ds := xs) (i := i) h.2 (by simpa using e)
/-- the heap without the objects at B -/
def hide (B : List Addr) (H : Hp) : Hp := fun b => if b ∈ B then none else H b
theorem hide_of {B : List Addr} {H : Hp} {b : Addr} {o : HO} (h : hide B H b = some o) : H b = some o ∧ b ∉ B := by
  unfold hide at h
  by_cases e : b ∈ B
  · rw [if_pos e] at h; cases h
  · rw [if_neg e] at h; exact ⟨h, e⟩
theorem hide_in {B : List Addr} {H : Hp} {b : Addr} (h : b ∉ B) : hide B H b = H b := if_neg h
theorem hide_sub {B : List Addr} {H : Hp} : Same (hide B H) H := fun b o e => (hide_of e).1
theorem hide_same {B : List Addr} (e : Same H H') : Same (hide B H) (hide B H') := fun b o h => by
  obtain ⟨h1, h2⟩ := hide_of h
  rw [hide_in h2]
  exact e _ _ h1
theorem hide_more {B : List Addr} {D : Addr} : Same (hide (D :: B) H) (hide B H) := fun b o h => by
  obtain ⟨h1, h2⟩ := hide_of h
  rw [hide_in (fun z => h2 (List.mem_cons_of_mem _ z))]
  exact h1
theorem hide_upd {B : List Addr} {D : Addr} {o : HO} : hide (D :: B) (upd H D o) = hide (D :: B) H := by
  funext b
  unfold hide
  by_cases e : b ∈ D :: B
  · rw [if_pos e, if_pos e]
  · rw [if_neg e, if_neg e, upd_ne (fun z => e (by rw [z]; exact List.mem_cons_self))]
theorem hide_new {B : List Addr} {D : Addr} (h : H D = none) : hide (D :: B) H = hide B H := by
  funext b
  unfold hide
  by_cases e : b = D
  · subst e
    by_cases e2 : b ∈ B
    · rw [if_pos (List.mem_cons_self), if_pos e2]
    · rw [if_pos (List.mem_cons_self), if_neg e2, h]
  · by_cases e2 : b ∈ B
    · rw [if_pos (List.mem_cons_of_mem _ e2), if_pos e2]
    · rw [if_neg (fun z => (List.mem_cons.mp z).elim e e2), if_neg e2]
theorem hide_nil : hide [] H = H := by
  funext b
  exact if_neg (by simp)
end
section
variable {X : Cx}
def rTupA (K : PySem.W.Frag) : List V → Hp → VK → Prop := fun vs H Q => match vs with
  | [.ref p] => (∃ ys, SqL K H p ys ∧ ∀ l, H l = none → Q (.ref l) (upd H l (.tup ys))) ∨ ∃ ys, SqT K H p ys ∧ Q (.ref p) H
  | _ => False
theorem call_tupleA : CallR X (.type "tuple") (rTupA X.K) := call_tuple_of.imp fun xs H Q h => by
  unfold rTupA at h
  split at h
  · rcases h with ⟨ys, h1, h2⟩ | ⟨ys, h1, h2⟩
    · exact ⟨_, ys, rfl, .inl ⟨h1, h2⟩⟩
    · exact ⟨_, ys, rfl, .inr ⟨h1, h2⟩⟩
  · exact h.elim
def rListA (K : PySem.W.Frag) : List V → Hp → VK → Prop := fun vs H Q => match vs with
  | [.ref p] => ∃ ys, (SqL K H p ys ∨ SqT K H p ys) ∧ ∀ l, H l = none → Q (.ref l) (upd H l (.lst ys))
  | _ => False
theorem call_listA : CallR X (.type "list") (rListA X.K) := call_list_of.imp fun xs H Q h => by
  unfold rListA at h
  split at h
  · obtain ⟨ys, h1, h2⟩ := h
    exact ⟨_, ys, rfl, h1, h2⟩
  · exact h.elim
end
/-- a def that other defs of the plain layer call -/
structure OwnK (P : Program) (w : World) (K : PySem.W.Frag) (mg : Str → Option Value) (base : Heap) (CX : CXT) (x : Str) (k : Nat) (ps : List Str) (sp : Sp) : Prop where
  ex : ∃ f fd, FnOk P w K mg base CX k f fd ps sp ∧ mg x = some (.ref f) ∧ PySem.W.keepIn K (.ref f) = true ∧ Binds K fd ps []
theorem OwnK.g {P : Program} {w : World} {K : PySem.W.Frag} {mg : Str → Option Value} {base : Heap} {CX : CXT} {x : Str} {k : Nat} {ps : List Str} {sp : Sp} (O : OwnK P w K mg base CX x k ps sp) : Own P w K mg base CX x k ps sp := by
  obtain ⟨f, fd, F, r⟩ := O.ex
  exact ⟨f, fd, FnG.of F, r⟩
section
variable {X : Cx} {CX : CXT} {k j : Nat} {ps : List Str} {sp : Sp} {x : Str} {p pos : Pos} {e : Expr} {es : List Expr} {t : TA}
theorem pe_ownK (O : OwnK X.prog X.w X.K X.mg X.base CX0 x k ps sp) (hr : Room j X.A) (ha : PA X (e :: es) t) (hk : k ≤ j := by decide) (hg : Gl X x := by rfl) (hdb : (x == ("__debug__" : Str)) = false := by decide)
    (he : starEach (e :: es) X.env = (false, eval e X.env) :: starEach es X.env := by rfl) (hpl : (backTo pos (starEach es X.env)).any (·.1) = false := by rfl) : PE X (.Call (.Name x p) (e :: es) [] pos) (tCall sp [] E0 t) := by
  obtain ⟨f, fd, F, hm, hkp, hb⟩ := O.ex
  exact pe_call F (hr.mono hk) hg hm hkp hb .nil pass0 ha hdb he hpl
end
theorem pe_gref {X : Cx} {x : Str} {a : Addr} {pos : Pos} (hm : X.mg x = some (.ref a)) (hg : Gl X x := by rfl) (hd : (x == ("__debug__" : Str)) = false := by decide) : PE X (.Name x pos) (tC (.ref a)) := pe_glob hg hm rfl hd
end L2

set_option Elab.async false
set_option linter.all false
set_option maxRecDepth 100000
set_option maxHeartbeats 4000000
/-! try: raise C('..') except x as n: a suite that asks str(n). -/
namespace L2
open PySem PySem.Spec PyProof.Rows PySem.KX
/-- an exception of C without a dict whose arguments lie at t -/
def Zm (C t : Addr) : Obj → Prop := fun o => o.cls = .ref C ∧ o.dict = none ∧ ∀ vs : Array Value, o.data = .fields vs → vs[0]? = some (.ref t)
theorem Zm.steady {C t : Addr} : PXN.Steady1 (Zm C t) := fun o v h => by
  refine ⟨PXN.steady_cls o v h.1, PXN.steady_dict o v h.2.1, ?_⟩
  have h3 := h.2.2
  obtain ⟨c, d, dt, sl⟩ := o
  cases dt with
  | fields vs0 =>
    intro vs e
    have e2 : vs0.setIfInBounds 1 v = vs := Data.fields.inj e
    have e3 : (vs0.setIfInBounds 1 v)[0]? = vs0[0]? := by
      first
      | exact Array.getElem?_setIfInBounds_ne (by decide)
      | simp [Array.getElem?_setIfInBounds]
    rw [← e2, e3]
    exact h3 vs0 rfl
  | _ =>
    intro vs e
    cases e
section
variable {X : Cx} {x n y : Str} {c : Value} {i j : Nat} {suite : List Stmt} {b₀ : Stmt} {np p p2 pos pos' pos1 pos2 : Pos} {m : Str} {ts : Addr → Addr → TS} {C : Addr} {bmB : List Value} {B newId initId : String}
theorem ps_try_msg (hs : X.stack = X.env :: X.outer) (hf : X.env.frame = some X.env.locals) (hN : X.N.Nodup) (hi : X.N[i]? = some n) (hln : X.env.kindOf n = some .local) (hc : Names X x c) (hcalm : X.calm = true)
    (FB : ExcBaseFacts B newId initId bmB) (q : PySem.W.excIn X.K C bmB newId = true) (gC : X.mg y = some (.ref C)) (kC : PySem.W.keepIn X.K (.ref C) = true) (r : Raises X (.ref C)) (hb1 : PySem.W.exmOne X.K (.ref C) c = some true)
    (hsu : ∀ (a : Addr) (oe : Obj) (t : Addr) (pn : List (Addr × Obj)), Zm C t oe → (∃ vs, oe.data = .fields vs) → PSs (X.suite a ((a, oe) :: pn)) (b₀ :: suite) (ts a t)) (hg : Gl X y := by rfl) (hdb : (y == ("__debug__" : Str)) = false := by decide) :
    PS X (.Try [.Raise (some (.Call (.Name y p) [.Constant (.str m) j p2] [] pos1)) none pos2] [.ExceptHandler (some (.Name x np)) (some n) (b₀ :: suite) pos'] [] [] pos)
      (fun D σ H => ∀ t a, H t = none → H a = none → a ≠ t → ts a t { nx := fun σ' H' => D.nx (σ'.set i none) H', rt := D.rt, bk := fun σ' H' => D.bk (σ'.set i none) H', ct := fun σ' H' => D.ct (σ'.set i none) H' } (σ.set i (some (.ref a))) (upd H t (.tup [.str m]))) := by
  refine ⟨fun pins s σ H D I h => ?_⟩
  have ok := I.ok
  have hfr : X.A.frames = some (X.env :: X.outer) := by rw [ok.frames, hs]
  have hloc : Loc X.env.scope n := .inl hln
  refine wpAny_Try_except ?_
  refine wpAny_execs_cons ?_
  show wpAny _ _ (do standAt pos2; raiseStmt X.env (some (do let v ← eval (.Call (.Name y p) [.Constant (.str m) j p2] [] pos1) X.env; standAt pos2; pure v)) none) _ _ _
  refine wpAny_bind (wpAny_standAt (raise_made (I.ok.hd hcalm) (wpAny_bind ?_)))
  refine wpAny_Call_Name_kw (ld_glob I hg gC ?_ hdb)
  refine PySem.W.callWith_K (h₀ := X.base) I.ok.mod.kin kC ?_ (by rfl) (by rfl)
  show wpAny _ _ (spliced ((false, eval (.Constant (.str m) j p2) X.env) :: backTo pos1 (starEach [] X.env))) _ _ s
  refine Calls.spliced_cons (Calls.Constant_str ?_)
  have I1 : Inv X pins σ H { s with toks := s.toks + 1 } := I.tok _
  refine Calls.spliced_nil ⟨I1.kIn, ?_⟩
  show wpAny _ _ (call (.ref C) [Value.str m s.toks]) _ _ _
  obtain ⟨bm, N, nm, qn, bs, hdct, sn, sub, ab, col, dd, k0, k1, k2, k3, k5, mN, hC, hN', hni, T⟩ := exc_obj I1.kIn q
  refine wpAny_call_exc_subT FB T hC hN' hni (fun h' a hm => ?_) (by show 1 ≤ sizeLine; rw [sizeLine_eq]; omega)
  refine wpAny_bind (wpAny_standAt (wpAny_pure ?_))
  have na : H a = none := I1.hok.gone hm.new
  obtain ⟨t, ha, hnt, ht⟩ := hm.there
  have htn : H t = none := I1.hok.gone hnt
  have hat : a ≠ t := fun z => by
    rw [z, ht] at ha
    cases ha
  obtain ⟨r1, r2⟩ := r (model X.prog X.w) h' (I1.kIn.keeps hm.keeps)
  refine ⟨a, _, _, .ref C, rfl, ha, rfl, rfl, rfl, r1, r2, ?_⟩
  -- the state without the exception
  obtain ⟨G, g1, g2⟩ := restrict h' fun b => decide (b ≠ a)
  have gk : ∀ b, b ≠ a → G.get? b = h'.get? b := fun b hb => g1 b (decide_eq_true hb)
  have ge : G.get? a = none := g2 a (by simp)
  have gs : ∀ b o, G.get? b = some o → h'.get? b = some o := fun b o e => by
    by_cases hb : b = a
    · rw [hb, ge] at e; cases e
    · exact (gk b hb).symm.trans e
  have keepG : ∀ b o, s.heap.get? b = some o → G.get? b = some o := fun b o z => by
    have nb : b ≠ a := fun w => by rw [w, hm.new] at z; cases z
    rw [gk b nb]
    exact hm.keeps b o z
  have ntb : ∀ b o, s.heap.get? b = some o → b ≠ t := fun b o z w => by rw [w, hnt] at z; cases z
  have ok2 : HOk X.prog X.w (upd H t (.tup [.str m])) G := fun b o z => by
    by_cases hb : b = t
    · subst hb
      rw [upd_same] at z
      cases z
      refine ⟨by show 1 ≤ sizeLine; rw [sizeLine_eq]; omega, [Value.str m s.toks], .cons ⟨_, rfl⟩ .nil, ⟨_, (gk b (Ne.symm hat)).trans ht, rfl, _, rfl⟩⟩
    · rw [upd_ne hb] at z
      exact (I1.hok b o z).stay (fun c w' _ w => keepG c w' w) (fun c w => by rw [upd_ne (ne_of_none w htn)]; exact w) fun c xs w => by rw [upd_ne (ne_of_none w htn)]; exact w
  have un : Un X.fs [] H (upd H t (.tup [.str m])) s.heap G := {
    keep := fun b o z nn _ _ => keepG b o z
    slot := fun b o z nn _ _ => ⟨o.slots, keepG b o z⟩
    free := fun b o z nn _ => by rw [upd_ne (ntb b o z)]; exact nn
    there := fun b o z _ => ⟨o, keepG b o z⟩
    tups := fun b xs z => by rw [upd_ne (ne_of_none z htn)]; exact z
    frzs := fun b o u z => by rw [upd_ne (ne_of_none z htn)]; exact z
    tbls := fun b ps z => ⟨#[], by rw [upd_ne (ne_of_none z htn), z]; simp⟩ }
  have J : Inv X pins σ (upd H t (.tup [.str m])) { s with heap := G, toks := s.toks + 1 } := I.un (t' := s.toks + 1) un ok2
  have naH : (upd H t (.tup [.str m])) a = none := by rw [upd_ne hat]; exact na
  have sky' : L2.Sky (PySem.W.hideAll G (frs X.stack)) (X.env :: X.outer) a (Zm C t) X.env.locals h' := by
    refine .inl ⟨fun b o e => gs b o (PySem.W.of_hideAll _ e), ?_, ?_, _, _, ha, ⟨rfl, rfl, fun vs e => ?_⟩, rfl, rfl⟩
    · cases qq : (PySem.W.hideAll G (frs X.stack)).get? a with
      | none => rfl
      | some o =>
        have z := PySem.W.of_hideAll _ qq
        rw [ge] at z; cases z
    · rw [← hs]
      exact Heap.FunFrames.of_keeps (fun b o e _ => ⟨o, gs b o e, rfl⟩) (funFrames_none J.stack fun b hb => PySem.W.hideAll_none _ hb)
    · cases e
      rfl
  have nb : ∀ b o, G.get? b = some o → b ∉ frs X.stack → (PySem.W.hideAll G (frs X.stack)).get? b = some o := fun b o e hb => PySem.W.hideAll_get _ e hb
  have up : G.UpToSlots h' := Heap.UpToSlots.of_keeps gs
  show wpAny (model X.prog X.w) X.A (noteFrame (.ref a) X.env) _ _ _
  refine L2N.Sky.land Zm.steady hfr hf sky' fun h3 fl3 up3 => ?_
  have J3 : Inv X pins σ (upd H t (.tup [.str m])) { s with heap := h3, toks := s.toks + 1 } := J.landed (s' := { s with heap := h3, toks := s.toks + 1 }) nb fl3.1 (up.trans up3) rfl I.bare
  obtain ⟨oe3, vs3, he3, hz3, hd3⟩ := fl3.there
  have notFr : ∀ {h : Heap} {o : Obj} {vs : Array Value}, h.FunFrames (PySem.W.hideAll G (frs X.stack)) (X.env :: X.outer) → h.get? a = some o → o.data = .fields vs → a ∉ frs (X.env :: X.outer) := fun {h o vs} ff e dd hm => by
    obtain ⟨_, o', e', hnf⟩ := ff.mem hm
    rw [e] at e'; cases e'
    exact hnf _ dd
  have nfr := notFr fl3.2.2.1 he3 hd3
  have nL : a ≠ X.env.locals := fun z => nfr (List.mem_filterMap.mpr ⟨X.env, List.mem_cons_self, by rw [hf, z]⟩)
  have nF : a ∉ X.fs := fun hm => by
    obtain ⟨e, he, q⟩ := List.mem_filterMap.mp hm
    exact nfr (List.mem_filterMap.mpr ⟨e, List.mem_cons_of_mem _ he, q⟩)
  have S3 := J3.suite he3 hd3 naH nL nF
  refine wpAny_handleBy_cons (codeAny_handlers_test ?_) (by intro q; cases q)
  have LT : PySem.W.Looks (model X.prog X.w) h3 (typeOf (.ref a)) (.ref C) := fun A Q E s k q => wpAny_typeOf_ref (k _ _ he3) (by rw [hz3.1]; exact q)
  have LM := PySem.W.exm_one (M := model X.prog X.w) (J3.kIn) LT hb1
  have test : ∀ {Q : Value → Shared → Prop} {E : Value → Shared → Prop}, Q c { s with heap := h3, toks := s.toks + 1 } → wpAny (model X.prog X.w) (X.A.mark (some (.ref a))) (eval (.Name x np) X.env) Q E { s with heap := h3, toks := s.toks + 1 } := fun {Q E} q => by
    obtain ⟨hg, hdbg, hm | ⟨hm, hv, hnn⟩⟩ := hc
    · exact ld_glob (X := X.suite a ((a, oe3) :: (X.pn ++ pins))) S3 hg hm q hdbg
    · exact ld_blt (X := X.suite a ((a, oe3) :: (X.pn ++ pins))) S3 hg hm hv q hnn hdbg
  refine test (LM.here ?_)
  refine codeAny_handlers_suite_as ?_
  refine HandSPX.lands_againZ fl3 fun h4 fl4 up4 => ?_
  have J4 : Inv X pins σ (upd H t (.tup [.str m])) { s with heap := h4, toks := s.toks + 1 } := J.landed (s' := { s with heap := h4, toks := s.toks + 1 }) nb fl4.1 ((up.trans up3).trans up4) rfl I.bare
  obtain ⟨oe4, vs4, he4, hz4, hd4⟩ := fl4.there
  have S4 := J4.suite he4 hd4 naH nL nF
  refine store_ok (X := X.suite a ((a, oe4) :: (X.pn ++ pins))) (v := .ref a) S4 hN hi hloc rfl (fun s5 S5 => ?_) (.inr hln)
  refine wpAny_mono ((hsu a oe4 t (X.pn ++ pins) hz4 ⟨_, hd4⟩).run [] s5 _ _ _ S5 (h t a htn na hat)) (fun f s6 hsp => ?_) (fun _ _ z => False.elim z)
  have end_ : ∀ {σ6 : St} {H6 : Hp} {Q : Shared → Prop}, Inv (X.suite a ((a, oe4) :: (X.pn ++ pins))) [] σ6 H6 s6 → (∀ s7, Inv X pins (σ6.set i none) H6 s7 → Q s7) →
      wpAny (model X.prog X.w) X.A (do bindName X.env n .none; unbindBehindTheSuite X.env n pos') (fun _ s7 => Q s7) X.xe s6 := fun {σ6 H6 Q} S6 hq => gone_ok (S6.unsuite ok) hN hi hln hq
  cases f with
  | next =>
    obtain ⟨σ6, H6, S6, q6⟩ := hsp
    exact end_ S6 fun s7 J7 => ⟨_, _, J7, q6⟩
  | brk =>
    obtain ⟨σ6, H6, S6, q6⟩ := hsp
    exact end_ S6 fun s7 J7 => ⟨_, _, J7, q6⟩
  | cont =>
    obtain ⟨σ6, H6, S6, q6⟩ := hsp
    exact end_ S6 fun s7 J7 => ⟨_, _, J7, q6⟩
  | ret u =>
    obtain ⟨v6, σ6, H6, S6, r6, q6⟩ := hsp
    exact end_ S6 fun s7 J7 => ⟨_, _, _, J7, r6, q6⟩
/-- str(n) in the suite -/
def rStrM (a t : Addr) : List V → Hp → VK → Prop := fun xs H Q => ∃ m, xs = [.ref a] ∧ H t = some (.tup [.str m]) ∧ Q (.str m) H
theorem call_strM {a t : Addr} {oe : Obj} {pn : List (Addr × Obj)} (hu : X.A.units + 64 < cLine) (hz : Zm C t oe) (hf : ∃ vs, oe.data = .fields vs) (hstr : PySem.W.findIn X.K (.ref C) "__str__" = some (some (.builtin "BaseException.__str__"))) (hB : PySem.W.subIn X.K (.ref C) (.type "BaseException") = some true) :
    CallR (X.suite a ((a, oe) :: pn)) (.type "str") (rStrM a t) := by
  intro pins s σ H xs us Q I r h
  obtain ⟨m, rfl, et, q⟩ := h
  obtain ⟨u, rfl, ru⟩ := vals1 r
  obtain rfl : u = Value.ref a := ru
  obtain ⟨ho, _⟩ := I.pin (a, oe) (List.mem_append_left _ List.mem_cons_self)
  obtain ⟨vs, hv⟩ := hf
  obtain ⟨its, rv, ⟨ot, hot, hc, n, hd⟩, _⟩ := I.tuple (SqT.of et)
  cases rv with
  | cons r1 r2 =>
    cases r2
    obtain ⟨tk, rfl⟩ := r1
    exact PySem.P.str_of_C_one (by show X.A.units + 2 < cLine; omega) ⟨I.kIn, oe, vs, ho, hz.1, hv, hz.2.2 vs hv⟩ ⟨ot, n, hot, hc, hd⟩ hstr hB ⟨.str m, H, I, ⟨tk, rfl⟩, q⟩
end
end L2

set_option Elab.async false
set_option linter.all false
set_option maxRecDepth 100000
set_option maxHeartbeats 4000000
namespace L2
open PySem PySem.Spec PyProof.Rows PySem.KX
/-- a reading, told of something stronger -/
def tUp (t : TE) : TE := fun σ H Q => ∃ Q0 : VK, t σ H Q0 ∧ ∀ v H', Q0 v H' → Q v H'
theorem PE.up {X : Cx} {e : Expr} {t : TE} (h : PE X e t) : PE X e (tUp t) :=
  ⟨fun pins s σ H Q I ⟨Q0, h0, k⟩ => wpAny_mono (h.run pins s σ H Q0 I h0) (fun u s1 ⟨v, H1, I1, r1, q1⟩ => ⟨v, H1, I1, r1, k v H1 q1⟩) fun _ _ z => z⟩
/-- lists, tuples stay -/
def Kept (H H' : Hp) : Prop := ∀ b, (∀ xs, H b = some (.lst xs) → H' b = some (.lst xs)) ∧ (∀ xs, H b = some (.tup xs) → H' b = some (.tup xs)) ∧ ∀ o u, H b = some (.frz o u) → H' b = some (.frz o u)
theorem kept_ext {H H' : Hp} {b : Addr} {g : Heap → Prop} (e : H b = some (.ext g)) : (∀ xs, H b = some (.lst xs) → H' b = some (.lst xs)) ∧ (∀ xs, H b = some (.tup xs) → H' b = some (.tup xs)) ∧ ∀ o u, H b = some (.frz o u) → H' b = some (.frz o u) := by
  rw [e]
  exact ⟨(fun _ z => nomatch z), (fun _ z => nomatch z), (fun _ _ z => nomatch z)⟩
mutual
theorem Dp.keep {K : PySem.W.Frag} {H H' : Hp} (e : Kept H H') : ∀ (d : PyData) (v : V), Dp K H v d → Dp K H' v d
  | .none, _, h => by cases h; exact .non
  | .bool b, _, h => by cases h; exact .bl b
  | .int i, _, h => by cases h; exact .int i
  | .str x, _, h => by cases h; exact .str x
  | .list ds, _, h => by
    cases h with
    | lst hs ha =>
      refine .lst ?_ (DpAll.keep e ds _ ha)
      rcases hs with (hs | ⟨o, hs⟩) | hs
      · exact .inl (.inl ((e _).1 _ hs))
      · exact .inl (.inr ⟨o, (e _).2.2 _ _ hs⟩)
      · exact .inr hs
  | .tuple ds, _, h => by
    cases h with
    | tup hs ha =>
      refine .tup ?_ (DpAll.keep e ds _ ha)
      rcases hs with (hs | ⟨o, hs⟩) | hs
      · exact .inl (.inl ((e _).2.1 _ hs))
      · exact .inl (.inr ⟨o, (e _).2.2 _ _ hs⟩)
      · exact .inr hs
  | .dict _, _, h => by cases h
theorem DpAll.keep {K : PySem.W.Frag} {H H' : Hp} (e : Kept H H') : ∀ (ds : List PyData) (vs : List V), DpAll K H vs ds → DpAll K H' vs ds
  | [], _, h => by cases h; exact .nil
  | d :: ds, _, h => by
    cases h with
    | cons h1 h2 => exact .cons (Dp.keep e d _ h1) (DpAll.keep e ds _ h2)
end
/-- C.__init__(self, v): the one field is a copy of v -/
def spIni (K : PySem.W.Frag) (C : Addr) (f : Str) : Sp := fun vs H Q _ => ∃ (a : Addr) (v : V) (d : PyData), vs = [.ref a, v] ∧ H a = some (exo a C none) ∧ Dp K (hide [a] H) v d ∧ d.depth ≤ 10 ∧ smallD d = true ∧
  ∀ (H' : Hp) (dx : Addr) (v' : V), (∀ b o, b ≠ a → H b = some o → H' b = some o) → H dx = none → H' a = some (exo a C (some dx)) → H' dx = some (exd dx [(f, v')]) → Dp K H' v' d → Q .non H'
/-- what a caller knows of an own exception class that keeps a copy of its one argument -/
structure ErrV (P : Program) (w : World) (K : PySem.W.Frag) (mg : Str → Option Value) (base : Heap) (x : Str) (C : Addr) (f : Str) (Bi newId initId : String) (bm : List Value) : Prop where
  B : XB Bi newId initId bm
  T : XCls K C newId bm
  xi : XI K C
  xc : XfC K C
  hno : PySem.W.findIn K (.ref C) f = some none
  g : mg x = some (.ref C)
  ini : ∃ fI fd, PySem.W.findIn K (.ref C) "__init__" = some (some (.ref fI)) ∧ PySem.W.typeIn K (.ref fI) = some (.type "function") ∧ FnOk P w K mg base CX0 12 fI fd ["self", f] (spIni K C f) ∧ Binds K fd ["self", f] []
/-- C(e) as a value -/
def tErrV (K : PySem.W.Frag) (C : Addr) (f : Str) (te : TE) : TE := fun σ H Q => te σ H fun v H1 => ∃ d, Dp K H1 v d ∧ d.depth ≤ 10 ∧ smallD d = true ∧
  ∀ (a dx : Addr) (v' : V) (H' : Hp), Same H1 H' → H1 a = none → H' a = some (exo a C (some dx)) → H' dx = some (exd dx [(f, v')]) → Dp K H' v' d → Q (.ref a) H'
/-- raise C(e) -/
def tErrX (K : PySem.W.Frag) (C : Addr) (f : Str) (te : TE) : St → Hp → XK → Prop := fun σ H Q => te σ H fun v H1 => ∃ d, Dp K H1 v d ∧ d.depth ≤ 10 ∧ smallD d = true ∧
  ∀ (dx : Addr) (v' : V) (H' : Hp), Same H1 H' → H1 dx = none → H' dx = some (.xd [(f, v')]) → Dp K H' v' d → Q (.ref C) (some dx) H'
section
variable {X : Cx} {e : Expr} {te : TE} {f : Str} {p pos : Pos} {Bi newId initId : String} {bm : List Value} {x : Str} {C : Addr} {j : Nat}
theorem PMk.imp {t t' : St → Hp → XK → Prop} (h : PMk X e t) (k : ∀ σ H Q, t' σ H Q → t σ H Q) : PMk X e t' := fun pins s σ H Q I q => h pins s σ H Q I (k σ H Q q)
theorem ini_h {H1 : Hp} {K : PySem.W.Frag} {a : Addr} {v : V} {d : PyData} {o : HO} (n : H1 a = none) (h : Dp K H1 v d) : Dp K (hide [a] (upd H1 a o)) v d := by
  rw [hide_upd, hide_new n, hide_nil]
  exact h
theorem ini_same {H1 H' : Hp} {a : Addr} {o : HO} (n : H1 a = none) (k : ∀ b o', b ≠ a → upd H1 a o b = some o' → H' b = some o') : Same H1 H' := fun b o' q => by
  have hb : b ≠ a := ne_of_none q n
  exact k b o' hb (by rw [upd_ne hb]; exact q)
theorem pe_errV (E : ErrV X.prog X.w X.K X.mg X.base x C f Bi newId initId bm) (hr : RoomG j X.A) (he : PE X e te) (hj : 13 ≤ j := by decide) (hg : Gl X x := by rfl)
    (hdb : (x == ("__debug__" : Str)) = false := by decide) (hs : starEach [e] X.env = (false, eval e X.env) :: starEach [] X.env := by rfl) (hpl : (backTo pos (starEach [] X.env)).any (·.1) = false := by rfl) :
    PE X (.Call (.Name x p) [e] [] pos) (tErrV X.K C f te) := by
  obtain ⟨fI, fd, iC, tI, F1, hb⟩ := E.ini
  refine (pe_oexX E.B E.T iC tI F1 (hr.r.mono hj) hb pass0 E.g (pa_cons he.up pa_nil hs) hg hdb hs hpl).imp fun σ H Q h => ?_
  refine ⟨_, h, fun v H1 ⟨d, hd, h1, h2, k⟩ => ⟨by show 1 ≤ 1000; omega, fun a na => ?_⟩⟩
  refine ⟨a, v, d, rfl, upd_same, ini_h na hd, h1, h2, fun H' dx v' kp _ ea ed hv => ⟨rfl, ?_⟩⟩
  exact k a dx v' H' (ini_same na kp) na ea ed hv
theorem pmk_errV (E : ErrV X.prog X.w X.K X.mg X.base x C f Bi newId initId bm) (hr : RoomG j X.A) (he : PE X e te) (hj : 13 ≤ j := by decide) (hg : Gl X x := by rfl)
    (hdb : (x == ("__debug__" : Str)) = false := by decide) (hs : starEach [e] X.env = (false, eval e X.env) :: starEach [] X.env := by rfl) (hpl : (backTo pos (starEach [] X.env)).any (·.1) = false := by rfl) :
    PMk X (.Call (.Name x p) [e] [] pos) (tErrX X.K C f te) := by
  obtain ⟨fI, fd, iC, tI, F1, hb⟩ := E.ini
  refine PMk.imp (pmk_oexX E.B E.T iC tI F1 (hr.r.mono hj) hb pass0 E.g (pa_cons he.up pa_nil hs) hg hdb hs hpl) fun σ H Q h => ?_
  refine ⟨_, h, fun v H1 ⟨d, hd, h1, h2, k⟩ => ⟨by show 1 ≤ 1000; omega, fun a na => ?_⟩⟩
  refine ⟨a, v, d, rfl, upd_same, ini_h na hd, h1, h2, fun H' dx v' kp nx ea ed hv => ⟨rfl, dx, [(f, v')], ea, ed, ?_, ?_⟩⟩
  · by_cases hd : dx = a
    · rw [hd, upd_same] at nx; cases nx
    · rw [upd_ne hd] at nx; exact nx
  · have ndx : dx ≠ a := fun hd => by rw [hd, upd_same] at nx; cases nx
    have n1 : H1 dx = none := by rw [upd_ne ndx] at nx; exact nx
    have s1 := ini_same na kp
    refine k dx v' _ (fun b o q => ?_) n1 upd_same (Dp.keep (fun b => ?_) _ _ hv)
    · have hb1 : b ≠ dx := ne_of_none q n1
      have hb2 : b ≠ a := ne_of_none q na
      rw [upd_ne hb1]
      unfold del
      rw [if_neg hb2]
      exact s1 b o q
    · by_cases hb1 : b = dx
      · subst hb1
        exact kept_ext ed
      · by_cases hb2 : b = a
        · subst hb2
          exact kept_ext ea
        · rw [upd_ne hb1]
          unfold del
          rw [if_neg hb2]
          exact ⟨fun _ z => z, fun _ z => z, fun _ _ z => z⟩
end
end L2

set_option Elab.async false
set_option linter.all false
set_option maxRecDepth 100000
set_option maxHeartbeats 4000000
/-! Readings that tell the new heap by what stays and what is new, not by its making. -/
namespace L2
open PySem PySem.Spec PyProof.Rows PySem.KX
def tUpA (t : TA) : TA := fun σ H Q => ∃ Q0 : List V → Hp → Prop, t σ H Q0 ∧ ∀ v H', Q0 v H' → Q v H'
theorem PA.up {X : Cx} {es : List Expr} {t : TA} (h : PA X es t) : PA X es (tUpA t) :=
  ⟨fun pos pins s σ H Q I ⟨Q0, h0, k⟩ => wpAny_mono (h.run pos pins s σ H Q0 I h0) (fun u s1 ⟨v, H1, I1, r1, q1⟩ => ⟨v, H1, I1, r1, k v H1 q1⟩) fun _ _ z => z⟩
theorem small_size {n : Nat} (h : n ≤ 1000000) : n ≤ sizeLine := by rw [sizeLine_eq]; omega
/-- [e, ..] -/
def tLstS (t : TA) : TE := fun σ H Q => t σ H fun xs H1 => xs.length ≤ 1000000 ∧ ∀ p H', Same H1 H' → H1 p = none → H' p = some (.lst xs) → Q (.ref p) H'
def tTupS (t : TA) : TE := fun σ H Q => t σ H fun xs H1 => xs.length ≤ 1000000 ∧ ∀ p H', Same H1 H' → H1 p = none → H' p = some (.tup xs) → Q (.ref p) H'
section
variable {X : Cx} {e : Expr} {es : List Expr} {te : TE} {t : TA} {p pos : Pos}
theorem pe_lstS (h : PA X es t) : PE X (.List es pos) (tLstS t) := (pe_lst h.up).imp fun σ H Q q => ⟨_, q, fun xs H1 ⟨l, k⟩ => ⟨small_size l, fun p n => k p _ ((Same.refl _).new n) n upd_same⟩⟩
theorem pe_tupS {x1} (h : PA X es t) : PE X (.Tuple es x1 pos) (tTupS t) := (pe_tup h.up).imp fun σ H Q q => ⟨_, q, fun xs H1 ⟨l, k⟩ => ⟨small_size l, fun p n => k p _ ((Same.refl _).new n) n upd_same⟩⟩
end
/-- + -/
def rAddS (K : PySem.W.Frag) : R2 := fun x y H Q => match x, y with
  | .int i, .int j => Q (.int (i + j)) H
  | .int i, .bl k => Q (.int (i + b2i k)) H
  | .str a, .str b => a.length + b.length ≤ 1000000 ∧ Q (.str (a ++ b)) H
  | .ref a, .ref b => (∃ xs ys, H a = some (.lst xs) ∧ H b = some (.lst ys) ∧ xs.length + ys.length ≤ 1000000 ∧ ∀ p H', Same H H' → H p = none → H' p = some (.lst (xs ++ ys)) → Q (.ref p) H') ∨
    ∃ xs ys, SqT K H a xs ∧ SqT K H b ys ∧ xs.length + ys.length ≤ 1000000 ∧ ∀ r H', Same H H' → SqT K H' r (xs ++ ys) → Q (.ref r) H'
  | _, _ => False
theorem op_addS {X : Cx} : OpR X (binaryOp .Add) (rAddS X.K) := op_addA.imp fun x y H Q h => by
  unfold rAddS at h
  split at h
  · exact h
  · exact h
  · exact ⟨small_size h.1, h.2⟩
  · rcases h with ⟨xs, ys, h1, h2, l, k⟩ | ⟨xs, ys, h1, h2, l, k⟩
    · exact .inl ⟨_, _, xs, ys, rfl, rfl, h1, h2, small_size l, fun p n => k p _ ((Same.refl _).new n) n upd_same⟩
    · refine .inr ⟨_, _, xs, ys, rfl, rfl, h1, h2, small_size l, fun e => k _ _ (Same.refl _) ?_, fun _ e => k _ _ (Same.refl _) ?_, fun _ _ p n => k p _ ((Same.refl _).new n) (SqT.of upd_same)⟩
      · rw [e]; exact h2
      · rw [e, List.append_nil]; exact h1
  · exact h.elim
/-! ### exceptions as values -/
/-- an exception of C made with the text t alone -/
def MsgAt (H : Hp) (C : Addr) (t : Str) (v : V) : Prop := ∃ a tt, v = .ref a ∧ H a = some (exM C tt a) ∧ H tt = some (.tup [.str t])
/-- an exception of C that keeps d as f -/
def ValAt (K : PySem.W.Frag) (H : Hp) (C : Addr) (f : Str) (d : PyData) (v : V) : Prop := ∃ a dx v', v = .ref a ∧ H a = some (exo a C (some dx)) ∧ H dx = some (exd dx [(f, v')]) ∧ Dp K H v' d
theorem MsgAt.same {H H' : Hp} {C : Addr} {t : Str} {v : V} (e : Same H H') (h : MsgAt H C t v) : MsgAt H' C t v := by
  obtain ⟨a, tt, h1, h2, h3⟩ := h
  exact ⟨a, tt, h1, e _ _ h2, e _ _ h3⟩
theorem ValAt.same {K : PySem.W.Frag} {H H' : Hp} {C : Addr} {f : Str} {d : PyData} {v : V} (e : Same H H') (h : ValAt K H C f d v) : ValAt K H' C f d v := by
  obtain ⟨a, dx, v', h1, h2, h3, h4⟩ := h
  exact ⟨a, dx, v', h1, e _ _ h2, e _ _ h3, Dp.same e _ _ h4⟩
theorem MsgAt.ty {K : PySem.W.Frag} {H : Hp} {C : Addr} {t : Str} {v : V} (x : XI K C) (h : MsgAt H C t v) : TyE K H v (.ref C) := by
  obtain ⟨a, tt, rfl, h2, h3⟩ := h
  exact .m h2 x
theorem ValAt.ty {K : PySem.W.Frag} {H : Hp} {C : Addr} {f : Str} {d : PyData} {v : V} (x : XI K C) (h : ValAt K H C f d v) : TyE K H v (.ref C) := by
  obtain ⟨a, dx, v', rfl, h2, h3, _⟩ := h
  exact .o h2 h3 x
/-- C('..') as a value -/
def tMsg (C : Addr) (te : TE) : TE := fun σ H Q => te σ H fun v H1 => ∃ t, v = .str t ∧ ∀ u H', Same H1 H' → MsgAt H' C t u → Q u H'
/-- C(e) as a value, e kept -/
def tVal (K : PySem.W.Frag) (C : Addr) (f : Str) (te : TE) : TE := fun σ H Q => te σ H fun v H1 => ∃ d, Dp K H1 v d ∧ d.depth ≤ 10 ∧ smallD d = true ∧ ∀ u H', Same H1 H' → ValAt K H' C f d u → Q u H'
/-- what a caller knows of an own exception class without own __init__ -/
structure ErrM (K : PySem.W.Frag) (mg : Str → Option Value) (x : Str) (C : Addr) (newId : String) (bmB : List Value) : Prop where
  q : PySem.W.excIn K C bmB newId = true
  g : mg x = some (.ref C)
  k : PySem.W.keepIn K (.ref C) = true
  xi : XI K C
  hs : PySem.W.findIn K (.ref C) "__str__" = some (some (.builtin "BaseException.__str__"))
section
variable {X : Cx} {e : Expr} {te : TE} {f : Str} {p pos : Pos} {B Bi newId initId : String} {bm bmB : List Value} {x : Str} {C : Addr} {j : Nat}
theorem pe_msg (F : ExcBaseFacts B newId initId bmB) (E : ErrM X.K X.mg x C newId bmB) (he : PE X e te) (hg : Gl X x := by rfl) (hs : starEach [e] X.env = (false, eval e X.env) :: starEach [] X.env := by rfl) (hdb : (x == ("__debug__" : Str)) = false := by decide) :
    PE X (.Call (.Name x p) [e] [] pos) (tMsg C te) := (pe_excT F E.q E.g E.k he.up hg hs hdb).imp fun σ H Q h => by
  refine ⟨_, h, fun v H1 ⟨t, ev, k⟩ tt a n1 n2 ne => ?_⟩
  subst ev
  refine k _ _ (((Same.refl _).new n1).new ?_) ⟨a, tt, rfl, upd_same, by rw [upd_ne (Ne.symm ne)]; exact upd_same⟩
  rw [upd_ne ne]
  exact n2
theorem pe_val (E : ErrV X.prog X.w X.K X.mg X.base x C f Bi newId initId bm) (hr : RoomG j X.A) (he : PE X e te) (hj : 13 ≤ j := by decide) (hg : Gl X x := by rfl)
    (hdb : (x == ("__debug__" : Str)) = false := by decide) (hs : starEach [e] X.env = (false, eval e X.env) :: starEach [] X.env := by rfl) (hpl : (backTo pos (starEach [] X.env)).any (·.1) = false := by rfl) :
    PE X (.Call (.Name x p) [e] [] pos) (tVal X.K C f te) := (pe_errV E hr he.up hj hg hdb hs hpl).imp fun σ H Q h => by
  refine ⟨_, h, fun v H1 ⟨d, hd, h1, h2, k⟩ => ⟨d, hd, h1, h2, fun a dx v' H' s1 _ ea ed hv => ?_⟩⟩
  exact k _ _ s1 ⟨a, dx, v', rfl, ea, ed, hv⟩
/-- e.f, e an exception that keeps d as f -/
def tXKept (K : PySem.W.Frag) (f : Str) (te : TE) : TE := fun σ H Q => te σ H fun u H1 => ∃ C d, XfC K C ∧ PySem.W.findIn K (.ref C) f = some none ∧ ValAt K H1 C f d u ∧ ∀ v, Dp K H1 v d → Q v H1
theorem pe_xkept {n : Str} (he : PE X e te) (hb : attributeBase e n X.env (eval e X.env) = eval e X.env := by rfl) : PE X (.Attribute e n pos) (tXKept X.K n te) := (pe_attr he.up hb).imp fun σ H Q h => by
  refine ⟨_, h, fun u H1 ⟨C, d, h1, h2, ⟨a, dx, v', eu, ea, ed, hv⟩, k⟩ => ⟨a, C, dx, _, v', eu, ea, ed, h1, h2, ?_, k v' hv⟩⟩
  simp [List.lookup]
end
/-- l.append(e) -/
def tAppS (to te : TE) : TE := fun σ H Q => to σ H fun x H1 => ∃ l xs0, x = .ref l ∧ H1 l = some (.lst xs0) ∧ te σ H1 fun y H2 => ∃ xs, H2 l = some (.lst xs) ∧ xs.length ≤ 1000000 ∧ Q .non (upd H2 l (.lst (xs ++ [y])))
section
variable {X : Cx} {o e : Expr} {to te : TE} {apos cpos : Pos}
theorem pe_appS (ho : PE X o to) (he : PE X e te)
    (hbase : attributeBase o "append" X.env (eval o X.env) = eval o X.env := by rfl)
    (hfew : ((backTo cpos (starEach [e] X.env)).all (fun x => !x.1) && (backToKw cpos (keywordEach [] X.env)).all (fun x => x.1.isSome)
      && decide ([e].length + ([] : List Keyword).length + (if ([] : List Keyword).isEmpty then 0 else 1) < 30)) = true := by rfl)
    (hline : (apos.endLine == cpos.line) = true := by rfl) (hs : starEach [e] X.env = (false, eval e X.env) :: starEach [] X.env := by rfl) (hplain : (backTo cpos (starEach [] X.env)).any (·.1) = false := by rfl) :
    PE X (.Call (.Attribute o "append" apos) [e] [] cpos) (tAppS to te) :=
  (pe_bm PySem.F.plainAttrs_list PySem.F.slot_list_append PySem.F.type_list_append mt_append ho.up (pa_cons he.up pa_nil hs) hbase hfew hline hs hplain).imp fun σ H Q h => by
    refine ⟨_, h, fun x H1 ⟨l, xs0, ex, el, ht⟩ => ⟨?_, _, ht, fun y H2 ⟨xs, h2, hz, q⟩ => ⟨l, xs, y, ex, rfl, h2, ?_, q⟩⟩⟩
    · subst ex
      exact .inl ⟨rfl, _, SqL.of el⟩
    · rw [sizeLine_eq]; omega
end
end L2

set_option Elab.async false
set_option linter.all false
set_option maxRecDepth 100000
set_option maxHeartbeats 4000000
/-! Comprehensions, told by what each item is. -/
namespace L2
open PySem PySem.Spec PyProof.Rows PySem.KX
/-- the list D while a comprehension builds it -/
def Acc (R : Nat → V → Hp → Prop) (D : Addr) (H1 : Hp) (n : Nat) (H' : Hp) : Prop := ∃ acc, H' D = some (.lst acc) ∧ Same H1 H' ∧ acc.length = n ∧ ∀ j v, acc[j]? = some v → R j v (hide [D] H')
theorem Acc.start {R : Nat → V → Hp → Prop} {D : Addr} {H1 : Hp} (hD : H1 D = none) : Acc R D H1 0 (upd H1 D (.lst [])) := ⟨[], upd_same, (Same.refl H1).new hD, rfl, fun j v h => nomatch h⟩
theorem Acc.snoc {R : Nat → V → Hp → Prop} {D : Addr} {H1 H' H4 : Hp} {n : Nat} {y : V} (st : ∀ j v H H', Same H H' → R j v H → R j v H') (hD : H1 D = none) (hn : n < 1000000) (p : Acc R D H1 n H') (s : Same H' H4) (r : R n y (hide [D] H4)) :
    ∃ acc, H4 D = some (.lst acc) ∧ acc.length < sizeLine ∧ Acc R D H1 (n + 1) (upd H4 D (.lst (acc ++ [y]))) := by
  obtain ⟨acc, h1, h2, h3, h4⟩ := p
  refine ⟨acc, s _ _ h1, by rw [sizeLine_eq]; omega, acc ++ [y], upd_same, fun b o e => ?_, by simp [h3], fun j v h => ?_⟩
  · rw [upd_ne (ne_of_none e hD)]
    exact s _ _ (h2 _ _ e)
  · rw [hide_upd]
    by_cases hj : j < acc.length
    · rw [List.getElem?_append_left hj] at h
      exact st _ _ _ _ (hide_same s) (h4 j v h)
    · rw [List.getElem?_append_right (by omega)] at h
      have e : j = n := by
        have := (List.getElem?_eq_some_iff.mp h).1
        simp at this
        omega
      subst e
      have e2 : v = y := by
        rw [h3, Nat.sub_self] at h
        simpa using h.symm
      subst e2
      exact r
theorem Acc.there {R : Nat → V → Hp → Prop} {D : Addr} {H1 H' : Hp} {n : Nat} (p : Acc R D H1 n H') : H' D ≠ none := by
  obtain ⟨acc, h1, _⟩ := p
  rw [h1]
  exact fun z => nomatch z
/-- [t for x in a list] -/
theorem lc_listS {K : PySem.W.Frag} {a : Addr} {xs : List V} {g : TG} {t : TE} {vs : List Nat} {σ : St} {H1 : Hp} {D : Addr} {Qd : Hp → Prop} (R : Nat → V → Hp → Prop) (st : ∀ j v H H', Same H H' → R j v H → R j v H') (hD : H1 D = none) (hl : SqL K H1 a xs) (hx : xs.length ≤ 1000000)
    (hs : ∀ j x H', xs[j]? = some x → Same H1 H' → H' D ≠ none → g x (wipe σ vs) H' fun σ2 H2 => wipe σ2 vs = wipe σ vs ∧ H2 = H' ∧ t σ2 H2 fun y H4 => Same H2 H4 ∧ R j y (hide [D] H4))
    (hg : ∀ x σ H (q q' : St → Hp → Prop), g x σ H q → (∀ σ H, q σ H → q' σ H) → g x σ H q')
    (hd : ∀ H' acc, Same H1 H' → H' D = some (.lst acc) → acc.length = xs.length → (∀ j v, acc[j]? = some v → R j v H') → Qd H') :
    ∃ W : Nat → Nat → Hp → Prop, (∃ m, W 0 m (upd H1 D (.lst []))) ∧ ∀ i m H, W i m H →
      ((Itl K a).stop i H ∧ Qd H) ∨ ((Itl K a).go i H ∧ ∃ Nx : Hp → Prop, (∀ H', Nx H' → ∃ m', m' < m ∧ W (i + 1) m' H') ∧ ∀ x H', (Itl K a).yld i H x H' → g x (wipe σ vs) H' fun σ2 H2 => wipe σ2 vs = wipe σ vs ∧ tYes σ2 H2 fun b H3 =>
        if b = true then tUp t σ2 H3 fun y H4 => ∃ acc, H4 D = some (.lst acc) ∧ acc.length < sizeLine ∧ Nx (upd H4 D (.lst (acc ++ [y]))) else Nx H3) := by
  refine lc_list (K := K) (a := a) (xs := xs) (te := tUp t) (fun i H' => Acc R D H1 i H') (Acc.start hD) (fun i H' _ ⟨_, _, s, _⟩ => s.sqL hl) (fun i x H' hi p => ?_) (fun H' ⟨acc, h1, h2, h3, h4⟩ => hd H' acc h2 h1 h3 fun j v h => st _ _ _ _ hide_sub (h4 j v h))
  have hlt : i < xs.length := (List.getElem?_eq_some_iff.mp hi).1
  have hs2 := p
  obtain ⟨_, _, s, _⟩ := hs2
  refine hg _ _ _ _ _ (hs i x H' hi s p.there) fun σ2 H2 ⟨w, e, q⟩ => ⟨w, ?_⟩
  subst e
  unfold tYes
  dsimp only
  rw [if_pos rfl]
  exact ⟨_, q, fun y H4 ⟨s4, r⟩ => Acc.snoc st hD (by omega) p s4 r⟩
/-- [t for x in range(n)] -/
theorem lc_rangeS {lo : Int} {n : Nat} {g : TG} {t : TE} {vs : List Nat} {σ : St} {H1 : Hp} {D : Addr} {Qd : Hp → Prop} (R : Nat → V → Hp → Prop) (st : ∀ j v H H', Same H H' → R j v H → R j v H') (hD : H1 D = none) (hx : n ≤ 1000000)
    (hs : ∀ j H', j < n → Same H1 H' → H' D ≠ none → g (.int (lo + j)) (wipe σ vs) H' fun σ2 H2 => wipe σ2 vs = wipe σ vs ∧ H2 = H' ∧ t σ2 H2 fun y H4 => Same H2 H4 ∧ R j y (hide [D] H4))
    (hg : ∀ x σ H (q q' : St → Hp → Prop), g x σ H q → (∀ σ H, q σ H → q' σ H) → g x σ H q')
    (hd : ∀ H' acc, Same H1 H' → H' D = some (.lst acc) → acc.length = n → (∀ j v, acc[j]? = some v → R j v H') → Qd H') :
    ∃ W : Nat → Nat → Hp → Prop, (∃ m, W 0 m (upd H1 D (.lst []))) ∧ ∀ i m H, W i m H →
      ((Itr lo n).stop i H ∧ Qd H) ∨ ((Itr lo n).go i H ∧ ∃ Nx : Hp → Prop, (∀ H', Nx H' → ∃ m', m' < m ∧ W (i + 1) m' H') ∧ ∀ x H', (Itr lo n).yld i H x H' → g x (wipe σ vs) H' fun σ2 H2 => wipe σ2 vs = wipe σ vs ∧ tYes σ2 H2 fun b H3 =>
        if b = true then tUp t σ2 H3 fun y H4 => ∃ acc, H4 D = some (.lst acc) ∧ acc.length < sizeLine ∧ Nx (upd H4 D (.lst (acc ++ [y]))) else Nx H3) := by
  refine lc_range (lo := lo) (n := n) (te := tUp t) (fun i H' => Acc R D H1 i H') (Acc.start hD) (fun i H' hi p => ?_) (fun H' ⟨acc, h1, h2, h3, h4⟩ => hd H' acc h2 h1 h3 fun j v h => st _ _ _ _ hide_sub (h4 j v h))
  have hs2 := p
  obtain ⟨_, _, s, _⟩ := hs2
  refine hg _ _ _ _ _ (hs i H' hi s p.there) fun σ2 H2 ⟨w, e, q⟩ => ⟨w, ?_⟩
  subst e
  unfold tYes
  dsimp only
  rw [if_pos rfl]
  exact ⟨_, q, fun y H4 ⟨s4, r⟩ => Acc.snoc st hD (by omega) p s4 r⟩
theorem gName_mono {i : Nat} : ∀ x σ H (q q' : St → Hp → Prop), gName i x σ H q → (∀ σ H, q σ H → q' σ H) → gName i x σ H q' := fun _ _ _ _ _ h k => k _ _ h
/-- slice of a list -/
def rSlLS (K : PySem.W.Frag) : V → Option Int → Option Int → Hp → VK → Prop := fun x lo hi H Q => ∃ a xs, x = .ref a ∧ SqL K H a xs ∧ ∀ p H', Same H H' → H p = none → H' p = some (.lst (cutV xs lo hi)) → Q (.ref p) H'
theorem sl_listS {X : Cx} : SlR X (rSlLS X.K) := by
  intro pins s σ H x v vl vu lo hi sl Q I rx hs pl pu h
  obtain ⟨a, xs, e, hx, k⟩ := h
  exact sl_list pins s σ H x v vl vu lo hi sl Q I rx hs pl pu ⟨a, xs, e, hx, fun p n => k p _ ((Same.refl _).new n) n upd_same⟩
/-- a row of data of equal shape -/
theorem dpAll_get {K : PySem.W.Frag} {H : Hp} : ∀ (vs : List V) (ds : List PyData), vs.length = ds.length → (∀ (i : Nat) (v : V), vs[i]? = some v → ∃ d : PyData, ds[i]? = some d ∧ Dp K H v d) → DpAll K H vs ds
  | [], [], _, _ => .nil
  | [], d :: ds, h, _ => nomatch h
  | v :: vs, [], h, _ => nomatch h
  | v :: vs, d :: ds, h, k => by
    refine .cons ?_ (dpAll_get vs ds (by simpa using h) fun i u hu => ?_)
    · obtain ⟨d', e, r⟩ := k 0 v rfl
      cases e
      exact r
    · obtain ⟨d', e, r⟩ := k (i + 1) u (by simpa using hu)
      exact ⟨d', by simpa using e, r⟩
end L2

set_option Elab.async false
set_option linter.all false
set_option maxRecDepth 100000
set_option maxHeartbeats 4000000
/-! Data with the empty dict among it. -/
namespace L2
open PySem PySem.Spec PyProof.Rows PySem.KX
mutual
inductive Dq (K : PySem.W.Frag) (H : Hp) : V → PyData → Prop
  | non : Dq K H .non .none
  | bl (b : Bool) : Dq K H (.bl b) (.bool b)
  | int (i : Int) : Dq K H (.int i) (.int i)
  | str (x : Str) : Dq K H (.str x) (.str x)
  | lst {a : Addr} {xs : List V} {ds : List PyData} (h : SqL K H a xs) (t : DqAll K H xs ds) : Dq K H (.ref a) (.list ds)
  | tup {a : Addr} {xs : List V} {ds : List PyData} (h : SqT K H a xs) (t : DqAll K H xs ds) : Dq K H (.ref a) (.tuple ds)
  | emp {a : Addr} (h : H a = some (.dK [])) : Dq K H (.ref a) (.dict [])
inductive DqAll (K : PySem.W.Frag) (H : Hp) : List V → List PyData → Prop
  | nil : DqAll K H [] []
  | cons {v : V} {vs : List V} {d : PyData} {ds : List PyData} (h : Dq K H v d) (t : DqAll K H vs ds) : DqAll K H (v :: vs) (d :: ds)
end
section
variable {K : PySem.W.Frag} {H H' : Hp} {v : V} {vs : List V} {d : PyData} {ds : List PyData}
mutual
theorem Dq.same (e : Same H H') : ∀ (d : PyData) (v : V), Dq K H v d → Dq K H' v d
  | .none, _, h => by cases h; exact .non
  | .bool b, _, h => by cases h; exact .bl b
  | .int i, _, h => by cases h; exact .int i
  | .str x, _, h => by cases h; exact .str x
  | .list ds, _, h => by
    cases h with
    | lst hs ha => exact .lst (e.sqL hs) (DqAll.same e ds _ ha)
  | .tuple ds, _, h => by
    cases h with
    | tup hs ha => exact .tup (e.sqT hs) (DqAll.same e ds _ ha)
  | .dict _, _, h => by
    cases h with
    | emp h => exact .emp (e _ _ h)
theorem DqAll.same (e : Same H H') : ∀ (ds : List PyData) (vs : List V), DqAll K H vs ds → DqAll K H' vs ds
  | [], _, h => by cases h; exact .nil
  | d :: ds, _, h => by
    cases h with
    | cons h1 h2 => exact .cons (Dq.same e d _ h1) (DqAll.same e ds _ h2)
end
theorem DqAll.length : ∀ {vs : List V} {ds : List PyData}, DqAll K H vs ds → vs.length = ds.length
  | _, _, .nil => rfl
  | _, _, .cons _ t => by simp [DqAll.length t]
theorem DqAll.get : ∀ {vs : List V} {ds : List PyData} {i : Nat} {v : V}, DqAll K H vs ds → vs[i]? = some v → ∃ d, ds[i]? = some d ∧ Dq K H v d
  | _, _, i, v, .nil, e => by simp at e
  | _, _, 0, v, .cons h _, e => by
    simp at e
    subst e
    exact ⟨_, rfl, h⟩
  | _, _, i + 1, v, .cons _ t, e => by
    obtain ⟨d, h1, h2⟩ := DqAll.get (i := i) (v := v) t (by simpa using e)
    exact ⟨d, by simpa using h1, h2⟩
theorem dqAll_get : ∀ (vs : List V) (ds : List PyData), vs.length = ds.length → (∀ (i : Nat) (v : V), vs[i]? = some v → ∃ d : PyData, ds[i]? = some d ∧ Dq K H v d) → DqAll K H vs ds
  | [], [], _, _ => .nil
  | [], d :: ds, h, _ => nomatch h
  | v :: vs, [], h, _ => nomatch h
  | v :: vs, d :: ds, h, k => by
    refine .cons ?_ (dqAll_get vs ds (by simpa using h) fun i u hu => ?_)
    · obtain ⟨d', e, r⟩ := k 0 v rfl
      cases e
      exact r
    · obtain ⟨d', e, r⟩ := k (i + 1) u (by simpa using hu)
      exact ⟨d', by simpa using e, r⟩
/-- a value's type -/
theorem Dq.ty (h : Dq K H v d) : TyE K H v (.type (tyOfD d)) := by
  cases h with
  | non => exact .x (.base .non)
  | bl b => exact .x (.base (.bl b))
  | int i => exact .x (.base (.int i))
  | str x => exact .x (.base (.str x))
  | lst hs ha =>
    rcases hs with (hs | ⟨o, hs⟩) | ⟨o, its, n, hk, hc, _⟩
    · exact .x (.base (.lst hs))
    · exact .x (.base (.frz hs))
    · exact .x (.kList hk hc)
  | tup hs ha =>
    rcases hs with (hs | ⟨o, hs⟩) | ⟨o, its, n, hk, hc, _⟩
    · exact .x (.base (.tup hs))
    · exact .x (.fTuple hs)
    · exact .x (.kTuple hk hc)
  | emp h => exact .x (.base (.dK h))
end
section
variable {X : Cx} {pins : List (Addr × Obj)} {σ : St} {H : Hp} {s : Shared}
mutual
theorem Dq.reads (I : Inv X pins σ H s) : ∀ (d : PyData) (v : V) (u : Value), Dq X.K H v d → RelV v u → ∃ as, Reads s.heap u d as
  | .none, _, _, h, r => by
    cases h
    cases r
    exact ⟨_, Reads.none⟩
  | .bool b, _, _, h, r => by
    cases h
    cases r
    exact ⟨_, Reads.bool b⟩
  | .int i, _, _, h, r => by
    cases h
    obtain ⟨t, rfl⟩ := r
    exact ⟨_, Reads.int i t⟩
  | .str x, _, _, h, r => by
    cases h
    obtain ⟨t, rfl⟩ := r
    exact ⟨_, Reads.str x t⟩
  | .list ds, _, _, h, r => by
    cases h with
    | lst hs ha =>
      cases r
      obtain ⟨its, rv, ⟨o, n, ho, hc, _, hd⟩, _⟩ := I.list hs
      obtain ⟨as, hr⟩ := Dq.readsAll I ds _ its ha rv
      exact ⟨_, Reads.list ho hc hd hr⟩
  | .tuple ds, _, _, h, r => by
    cases h with
    | tup hs ha =>
      cases r
      obtain ⟨its, rv, ⟨o, ho, hc, n, hd⟩, _⟩ := I.tuple hs
      obtain ⟨as, hr⟩ := Dq.readsAll I ds _ its ha rv
      exact ⟨_, Reads.tuple ho hc hd hr⟩
  | .dict kvs, _, _, h, r => by
    cases h with
    | emp e =>
      cases r
      obtain ⟨hz, hsm, vs, rel, o, es, ep, ho, hx, hd, hk, hp, _⟩ := dk_of I.hok e
      cases rel
      have he : es.toList = [] := by
        have := hp.length
        exact List.length_eq_zero_iff.mp this
      exact ⟨_, Reads.dict (kvs := []) (as := []) (bs := []) ho hx.1 hd (by rw [he]; exact .nil) (by rw [he]; exact .nil)⟩
theorem Dq.readsAll (I : Inv X pins σ H s) : ∀ (ds : List PyData) (vs : List V) (us : List Value), DqAll X.K H vs ds → Vals vs us → ∃ as, ReadsAll s.heap us ds as
  | [], _, _, h, r => by
    cases h
    cases r
    exact ⟨_, ReadsAll.nil⟩
  | d :: ds, _, _, h, r => by
    cases h with
    | cons h1 h2 =>
      cases r with
      | cons r1 r2 =>
        obtain ⟨as, q1⟩ := Dq.reads I d _ _ h1 r1
        obtain ⟨bs, q2⟩ := Dq.readsAll I ds _ _ h2 r2
        exact ⟨_, ReadsAll.cons q1 q2⟩
end
end
/-! the same, no list among it at the place of sys.modules -/
mutual
inductive Dn (K : PySem.W.Frag) (H : Hp) : V → PyData → Prop
  | non : Dn K H .non .none
  | bl (b : Bool) : Dn K H (.bl b) (.bool b)
  | int (i : Int) : Dn K H (.int i) (.int i)
  | str (x : Str) : Dn K H (.str x) (.str x)
  | lst {a : Addr} {xs : List V} {ds : List PyData} (h : SqL K H a xs) (n : (a == sysModules) = false) (t : DnAll K H xs ds) : Dn K H (.ref a) (.list ds)
  | tup {a : Addr} {xs : List V} {ds : List PyData} (h : SqT K H a xs) (t : DnAll K H xs ds) : Dn K H (.ref a) (.tuple ds)
  | emp {a : Addr} (h : H a = some (.dK [])) : Dn K H (.ref a) (.dict [])
inductive DnAll (K : PySem.W.Frag) (H : Hp) : List V → List PyData → Prop
  | nil : DnAll K H [] []
  | cons {v : V} {vs : List V} {d : PyData} {ds : List PyData} (h : Dn K H v d) (t : DnAll K H vs ds) : DnAll K H (v :: vs) (d :: ds)
end
section
variable {K : PySem.W.Frag} {H H' : Hp} {v : V} {vs : List V} {d : PyData} {ds : List PyData}
mutual
theorem Dn.same (e : Same H H') : ∀ (d : PyData) (v : V), Dn K H v d → Dn K H' v d
  | .none, _, h => by cases h; exact .non
  | .bool b, _, h => by cases h; exact .bl b
  | .int i, _, h => by cases h; exact .int i
  | .str x, _, h => by cases h; exact .str x
  | .list ds, _, h => by
    cases h with
    | lst hs n ha => exact .lst (e.sqL hs) n (DnAll.same e ds _ ha)
  | .tuple ds, _, h => by
    cases h with
    | tup hs ha => exact .tup (e.sqT hs) (DnAll.same e ds _ ha)
  | .dict _, _, h => by
    cases h with
    | emp h => exact .emp (e _ _ h)
theorem DnAll.same (e : Same H H') : ∀ (ds : List PyData) (vs : List V), DnAll K H vs ds → DnAll K H' vs ds
  | [], _, h => by cases h; exact .nil
  | d :: ds, _, h => by
    cases h with
    | cons h1 h2 => exact .cons (Dn.same e d _ h1) (DnAll.same e ds _ h2)
end
mutual
theorem Dn.dq : ∀ (d : PyData) (v : V), Dn K H v d → Dq K H v d
  | .none, _, h => by cases h; exact .non
  | .bool b, _, h => by cases h; exact .bl b
  | .int i, _, h => by cases h; exact .int i
  | .str x, _, h => by cases h; exact .str x
  | .list ds, _, h => by
    cases h with
    | lst hs n ha => exact .lst hs (DnAll.dq ds _ ha)
  | .tuple ds, _, h => by
    cases h with
    | tup hs ha => exact .tup hs (DnAll.dq ds _ ha)
  | .dict _, _, h => by
    cases h with
    | emp h => exact .emp h
theorem DnAll.dq : ∀ (ds : List PyData) (vs : List V), DnAll K H vs ds → DqAll K H vs ds
  | [], _, h => by cases h; exact .nil
  | d :: ds, _, h => by
    cases h with
    | cons h1 h2 => exact .cons (Dn.dq d _ h1) (DnAll.dq ds _ h2)
end
end
section
variable {X : Cx} {pins : List (Addr × Obj)} {σ : St} {H : Hp} {s : Shared}
mutual
theorem Dn.reads (I : Inv X pins σ H s) : ∀ (d : PyData) (v : V) (u : Value), Dn X.K H v d → RelV v u → ∃ as, Reads s.heap u d as ∧ sysModules ∉ as
  | .none, _, _, h, r => by
    cases h
    cases r
    exact ⟨_, Reads.none, by simp⟩
  | .bool b, _, _, h, r => by
    cases h
    cases r
    exact ⟨_, Reads.bool b, by simp⟩
  | .int i, _, _, h, r => by
    cases h
    obtain ⟨t, rfl⟩ := r
    exact ⟨_, Reads.int i t, by simp⟩
  | .str x, _, _, h, r => by
    cases h
    obtain ⟨t, rfl⟩ := r
    exact ⟨_, Reads.str x t, by simp⟩
  | .list ds, _, _, h, r => by
    cases h with
    | lst hs nn ha =>
      cases r
      obtain ⟨its, rv, ⟨o, n, ho, hc, _, hd⟩, _⟩ := I.list hs
      obtain ⟨as, hr, hm⟩ := Dn.readsAll I ds _ its ha rv
      refine ⟨_, Reads.list ho hc hd hr, fun z => ?_⟩
      rcases List.mem_cons.mp z with z | z
      · rw [← z] at nn
        simp at nn
      · exact hm z
  | .tuple ds, _, _, h, r => by
    cases h with
    | tup hs ha =>
      cases r
      obtain ⟨its, rv, ⟨o, ho, hc, n, hd⟩, _⟩ := I.tuple hs
      obtain ⟨as, hr, hm⟩ := Dn.readsAll I ds _ its ha rv
      exact ⟨_, Reads.tuple ho hc hd hr, hm⟩
  | .dict kvs, _, _, h, r => by
    cases h with
    | emp e =>
      cases r
      obtain ⟨hz, hsm, vs, rel, o, es, ep, ho, hx, hd, hk, hp, _⟩ := dk_of I.hok e
      cases rel
      have he : es.toList = [] := by
        have := hp.length
        exact List.length_eq_zero_iff.mp this
      refine ⟨_, Reads.dict (kvs := []) (as := []) (bs := []) ho hx.1 hd (by rw [he]; exact .nil) (by rw [he]; exact .nil), fun z => ?_⟩
      have z' := List.mem_singleton.mp (by rw [List.append_nil] at z; exact z)
      rw [← z'] at hsm
      simp at hsm
theorem Dn.readsAll (I : Inv X pins σ H s) : ∀ (ds : List PyData) (vs : List V) (us : List Value), DnAll X.K H vs ds → Vals vs us → ∃ as, ReadsAll s.heap us ds as ∧ sysModules ∉ as
  | [], _, _, h, r => by
    cases h
    cases r
    exact ⟨_, ReadsAll.nil, by simp⟩
  | d :: ds, _, _, h, r => by
    cases h with
    | cons h1 h2 =>
      cases r with
      | cons r1 r2 =>
        obtain ⟨as, q1, m1⟩ := Dn.reads I d _ _ h1 r1
        obtain ⟨bs, q2, m2⟩ := Dn.readsAll I ds _ _ h2 r2
        exact ⟨_, ReadsAll.cons q1 q2, fun z => (List.mem_append.mp z).elim m1 m2⟩
end
end
section
variable {X : Cx}
def rEqQ (K : PySem.W.Frag) : R2 := fun x y H Q => ∃ d e, Dq K H x d ∧ Dq K H y e ∧ SeqAt.shaped d = true ∧ SeqAt.shaped e = true ∧ Q (.bl (PyData.eqv d e)) H
def rNeQ (K : PySem.W.Frag) : R2 := fun x y H Q => ∃ d e, Dq K H x d ∧ Dq K H y e ∧ SeqAt.shaped d = true ∧ SeqAt.shaped e = true ∧ Q (.bl (!PyData.eqv d e)) H
theorem op_eqQ (hu : X.A.units + 64 < cLine) : OpR X (compareOp .Eq) (rEqQ X.K) := by
  intro pins s σ H x y v u Q I rx ry h
  obtain ⟨d, e, hd, he, sd, se, q⟩ := h
  obtain ⟨as, r1⟩ := Dq.reads I d x v hd rx
  obtain ⟨bs, r2⟩ := Dq.reads I e y u he ry
  exact SeqAt.compareEq_shaped r1 r2 sd se hu ⟨.bl _, H, I, rfl, q⟩
theorem op_neQ (hu : X.A.units + 64 < cLine) : OpR X (compareOp .NotEq) (rNeQ X.K) := by
  intro pins s σ H x y v u Q I rx ry h
  obtain ⟨d, e, hd, he, sd, se, q⟩ := h
  obtain ⟨as, r1⟩ := Dq.reads I d x v hd rx
  obtain ⟨bs, r2⟩ := Dq.reads I e y u he ry
  exact SeqAt.compareNe_shaped r1 r2 sd se hu ⟨.bl _, H, I, rfl, q⟩
/-- repr(x) of a list, a tuple, a dict -/
def rReprQ (K : PySem.W.Frag) : List V → Hp → VK → Prop := fun xs H Q => ∃ (a : Addr) (d : PyData), xs = [.ref a] ∧ ((d.hasDict = false ∧ Dq K H (.ref a) d) ∨ Dn K H (.ref a) d) ∧ d.showable = true ∧ d.depth ≤ 60 ∧ d.shown.length ≤ sizeLine ∧ Q (.str d.shown) H
theorem call_reprQ (hu : X.A.units + 64 < cLine) (hg : X.A.guards = some []) : CallR X (.builtin "repr") (rReprQ X.K) := by
  intro pins s σ H xs us Q I r h
  obtain ⟨a, d, rfl, hd, h1, h3, h4, q⟩ := h
  obtain ⟨u, rfl, ru⟩ := vals1 r
  obtain rfl : u = Value.ref a := ru
  have hrd : ∃ as, Reads s.heap (.ref a) d as ∧ (d.hasDict = true → sysModules ∉ as) := by
    rcases hd with ⟨hn, hd⟩ | hd
    · obtain ⟨as, rd⟩ := Dq.reads I d _ _ hd rfl
      exact ⟨as, rd, PyData.noDict_hsm hn⟩
    · obtain ⟨as, rd, hm⟩ := Dn.reads I d _ _ hd rfl
      exact ⟨as, rd, fun _ => hm⟩
  obtain ⟨as, rd, hm⟩ := hrd
  exact repr_of_reads' (h₀ := s.heap) rd h1 hm hg (by omega) (fun _ _ e => e) (fun h' u tk hk => ⟨.str d.shown, H, I.kept (t' := tk) hk, ⟨u, rfl⟩, q⟩) h4
end
end L2

set_option Elab.async false
set_option linter.all false
set_option maxRecDepth 100000
set_option maxHeartbeats 4000000
/-! Comprehensions over any walk; slices of tuples; all(..) of a list of bools. -/
namespace L2
open PySem PySem.Spec PyProof.Rows PySem.KX
theorem lc_itS {J : It} {n : Nat} {G : Hp → Prop} {Y : Nat → Hp → V → Hp → Prop} (w : Walk J n G Y) {g : TG} {t : TE} {vs : List Nat} {σ : St} {H1 : Hp} {D : Addr} {Qd : Hp → Prop} (R : Nat → V → Hp → Prop) (st : ∀ j v H H', Same H H' → R j v H → R j v H') (hD : H1 D = none) (hx : n ≤ 1000000)
    (hG : ∀ H', Same H1 H' → G H')
    (hs : ∀ j x H' H2, j < n → Same H1 H' → H' D ≠ none → Y j H' x H2 → g x (wipe σ vs) H2 fun σ3 H3 => wipe σ3 vs = wipe σ vs ∧ t σ3 H3 fun y H4 => Same H' H4 ∧ R j y (hide [D] H4))
    (hg : ∀ x σ H (q q' : St → Hp → Prop), g x σ H q → (∀ σ H, q σ H → q' σ H) → g x σ H q')
    (hd : ∀ H' acc, Same H1 H' → H' D = some (.lst acc) → acc.length = n → (∀ j v, acc[j]? = some v → R j v H') → Qd H') :
    ∃ W : Nat → Nat → Hp → Prop, (∃ m, W 0 m (upd H1 D (.lst []))) ∧ ∀ i m H, W i m H →
      (J.stop i H ∧ Qd H) ∨ (J.go i H ∧ ∃ Nx : Hp → Prop, (∀ H', Nx H' → ∃ m', m' < m ∧ W (i + 1) m' H') ∧ ∀ x H', J.yld i H x H' → g x (wipe σ vs) H' fun σ2 H2 => wipe σ2 vs = wipe σ vs ∧ tYes σ2 H2 fun b H3 =>
        if b = true then tUp t σ2 H3 fun y H4 => ∃ acc, H4 D = some (.lst acc) ∧ acc.length < sizeLine ∧ Nx (upd H4 D (.lst (acc ++ [y]))) else Nx H3) := by
  refine lc_it w (te := tUp t) (fun i H' => Acc R D H1 i H') (Acc.start hD) (fun i H' _ ⟨_, _, s, _⟩ => hG _ s) (fun i x H' H2 hi p y => ?_) (fun H' ⟨acc, h1, h2, h3, h4⟩ => hd H' acc h2 h1 h3 fun j v h => st _ _ _ _ hide_sub (h4 j v h))
  have hs2 := p
  obtain ⟨_, _, s, _⟩ := hs2
  refine hg _ _ _ _ _ (hs i x H' H2 hi s p.there y) fun σ2 H3 ⟨w, q⟩ => ⟨w, ?_⟩
  unfold tYes
  dsimp only
  rw [if_pos rfl]
  exact ⟨_, q, fun y H4 ⟨s4, r⟩ => Acc.snoc st hD (by omega) p s4 r⟩
theorem walk_zipT {K : PySem.W.Frag} {a b : Addr} {xs ys : List V} {n : Nat} (hn : n = min xs.length ys.length) : Walk (RZ.ItzT K a b) n (fun H => SqT K H a xs ∧ SqT K H b ys) (YPair (fun i => xs[i]?) (fun i => ys[i]?)) := by
  constructor
  · intro i H hi ⟨h1, h2⟩
    exact ⟨xs, ys, xs[i]'(by omega), ys[i]'(by omega), h1, h2, List.getElem?_eq_getElem _, List.getElem?_eq_getElem _⟩
  · intro H ⟨h1, h2⟩
    exact ⟨xs, ys, h1, h2, by omega⟩
  · rintro i H x H' hi ⟨h1, h2⟩ ⟨T, x1, y1, e1, e2, e3, k1, k2⟩
    exact ⟨T, x1, y1, e1, e2, e3, k1 _ h1, k2 _ h2⟩
theorem cut_whole {xs : List V} {lo hi : Option Int} (h : HT.sIx xs.length 0 lo = 0 ∧ HT.sIx xs.length xs.length hi = xs.length) : cutV xs lo hi = xs := by
  unfold cutV
  rw [h.1, h.2]
  simp
def rSlTS (K : PySem.W.Frag) : V → Option Int → Option Int → Hp → VK → Prop := fun x lo hi H Q => ∃ a xs, x = .ref a ∧ SqT K H a xs ∧ ∀ r H', Same H H' → SqT K H' r (cutV xs lo hi) → Q (.ref r) H'
theorem sl_tupS {X : Cx} : SlR X (rSlTS X.K) := by
  intro pins s σ H x v vl vu lo hi sl Q I rx hs pl pu h
  obtain ⟨a, xs, e, hx, k⟩ := h
  refine sl_tupA pins s σ H x v vl vu lo hi sl Q I rx hs pl pu ⟨a, xs, e, hx, fun c => k a H (Same.refl _) (by rw [cut_whole c]; exact hx), fun _ p n => k p _ ((Same.refl _).new n) (SqT.of upd_same)⟩
theorem cut_tail (xs : List V) : cutV xs (some 1) none = xs.tail := by
  cases xs with
  | nil => rfl
  | cons x r =>
    unfold cutV
    have h1 : HT.sIx (x :: r).length 0 (some 1) = 1 := by
      unfold HT.sIx
      simp
      try omega
    have h2 : HT.sIx (x :: r).length (x :: r).length none = (x :: r).length := rfl
    rw [h1, h2]
    simp
theorem acc_map {vs : List V} {ds : List PyData} {p : PyData → Bool} (hl : vs.length = ds.length) (h : ∀ (j : Nat) (v : V), vs[j]? = some v → ∃ d, ds[j]? = some d ∧ v = .bl (p d)) : vs = (ds.map p).map V.bl := by
  refine List.ext_getElem? fun j => ?_
  by_cases hj : j < vs.length
  · obtain ⟨d, h1, h2⟩ := h j _ (List.getElem?_eq_getElem hj)
    rw [List.getElem?_eq_getElem hj, h2, List.getElem?_map, List.getElem?_map, h1]
    rfl
  · rw [List.getElem?_eq_none (by omega), List.getElem?_eq_none (by simp; omega)]
theorem all_map {ds : List PyData} {p : PyData → Bool} : (ds.map p).all id = ds.all p := by simp [List.all_map]
end L2

set_option Elab.async false
set_option linter.all false
set_option maxRecDepth 100000
set_option maxHeartbeats 4000000
/-! x == (), whatever x. -/
namespace PySem
namespace KX
open SeqAt PySem.W PySem.Calls PyProof.Rows
theorem nilD_declines (p q : Addr) (es : Array DictEntry) (its : Array Value) (k k2 : Nat) (d1 d2 : Option Addr) (z1 z2 : Array (Option Value)) :
    Meets (Builtin.«dict.__eq__» ⟨[.ref p, .ref q], []⟩) (fun _ R s => s.heap.get? p = some { cls := .type "dict", dict := d1, data := .dict es k, slots := z1 } ∧ s.heap.get? q = some { cls := .type "tuple", dict := d2, data := .seq its k2, slots := z2 } ∧ R (.ok (.ret .notImplemented)) s) :=
  .of_wp fun prog w A R s hh => by
    obtain ⟨hp, g, d, tk, os⟩ := s
    obtain ⟨e1, e2, hh⟩ := hh
    have f1 := F.sub_tuple_dict
    wp_walk using wpAny_loadPart' e1, wpAny_loadPart' e2
    exact ⟨_, rfl, hh⟩
theorem nilT_declines (p q : Addr) (es : Array DictEntry) (its : Array Value) (k k2 : Nat) (d1 d2 : Option Addr) (z1 z2 : Array (Option Value)) :
    Meets (Builtin.«tuple.__eq__» ⟨[.ref q, .ref p], []⟩) (fun _ R s => s.heap.get? q = some { cls := .type "tuple", dict := d2, data := .seq its k2, slots := z2 } ∧ s.heap.get? p = some { cls := .type "dict", dict := d1, data := .dict es k, slots := z1 } ∧ R (.ok (.ret .notImplemented)) s) :=
  .of_wp fun prog w A R s hh => by
    obtain ⟨hp, g, d, tk, os⟩ := s
    obtain ⟨e1, e2, hh⟩ := hh
    have f1 := F.sub_dict_tuple
    wp_walk using wpAny_loadPart' e1, wpAny_loadPart' e2
    exact ⟨_, rfl, hh⟩
theorem rcDictTup {A : Around} {s : Shared} {p q : Addr} {o : Obj} {es : Array DictEntry} {ep : Nat} {its : Array Value} (ho : s.heap.get? p = some o) (hx : o.cls = .type "dict") (hd : o.data = .dict es ep) (hb : s.heap.IsTuple q its) (hu : A.units < cLine) : RcAt A s (.ref p) (.ref q) false := fun prog w E Q h => by
  obtain ⟨⟨c2, d2, t2, z2⟩, ho2, hc2, n2, hd2⟩ := id hb
  obtain ⟨c1, d1, t1, z1⟩ := o
  have hne : p ≠ q := fun e => by
    subst e
    rw [ho] at ho2
    cases ho2
    rw [hd] at hd2
    cases hd2
  simp only at hx hd hc2 hd2
  subst hx
  subst hd
  subst hc2
  subst hd2
  exact (rc_eq_decline_or (k := false) ⟨_, ho, rfl⟩ ⟨_, ho2, rfl⟩ (by decide) F.sub_tuple_dict F.slot_dict_eq F.slot_tuple_eq_refl
    (fun _ hq => call_meets F.slot_dict_eq ⟨_, ho, rfl⟩ F.entry_dict_eq (F.args_dict_eq_2 _ _) (nilD_declines p q es its ep n2 d1 d2 z1 z2) ⟨ho, ho2, hq⟩)
    (fun _ hq => call_meets F.slot_tuple_eq_refl ⟨_, ho2, rfl⟩ F.entry_tuple_eq (F.args_tuple_eq_2 _ _) (nilT_declines p q es its ep n2 d1 d2 z1 z2) ⟨ho2, ho, hq⟩)
    (fun _ hq => wpAny_isSame_ref_other hne ho ho2 (by simp) hq) (.inr hu) h)
end KX
end PySem
namespace L2
open PySem PySem.Spec PyProof.Rows PySem.KX SeqAt
def isNilD : PyData → Bool
  | .tuple [] => true
  | _ => false
def rEqNil (K : PySem.W.Frag) : R2 := fun x y H Q => ∃ r d, y = .ref r ∧ SqT K H r [] ∧ Dq K H x d ∧ Q (.bl (isNilD d)) H
theorem op_eqNil {X : Cx} (hu : X.A.units + 64 < cLine) : OpR X (compareOp .Eq) (rEqNil X.K) := by
  intro pins s σ H x y v u Q I rx ry h
  obtain ⟨r, d, rfl, hr, hd, q⟩ := h
  obtain rfl : u = Value.ref r := ry
  have hu1 : X.A.units < cLine := by omega
  obtain ⟨it0, rv0, ⟨o0, ho0, hc0, n0, hd0⟩, _⟩ := I.tuple hr
  have hl0 : it0 = [] := by
    cases rv0
    rfl
  subst hl0
  have T0 : s.heap.IsTuple r #[] := ⟨o0, ho0, hc0, n0, hd0⟩
  have fin : ∀ {b : Bool}, RcAt X.A s v (.ref r) b → isNilD d = b → wpAny (model X.prog X.w) X.A (compareOp .Eq v (.ref r)) (EP X pins σ Q) X.xe s := fun {b} rc e => rc X.prog X.w X.xe _ ⟨.bl b, H, I, rfl, e ▸ q⟩
  cases hd with
  | non =>
    cases rx
    exact fin (.none_tuple T0 hu1) rfl
  | bl b =>
    cases rx
    exact fin (.bool_tuple b T0 hu1) rfl
  | int i =>
    obtain ⟨t, rfl⟩ := rx
    exact fin (.int_tuple i t T0 hu1) rfl
  | str x =>
    obtain ⟨t, rfl⟩ := rx
    exact fin (.str_tuple x t T0 hu1) rfl
  | lst hs ha =>
    cases rx
    obtain ⟨its, rv, ⟨o, n, ho, hc, _, hd⟩, _⟩ := I.list hs
    exact fin (.list_tuple ⟨o, ho, hc, n, hd⟩ T0 hu1) rfl
  | @tup a xs ds hs ha =>
    cases rx
    obtain ⟨its, rv, ⟨o, ho, hc, n, hd⟩, _⟩ := I.tuple hs
    refine fin (.tuples (e := fun _ => true) ⟨o, ho, hc, n, hd⟩ T0 hu1 fun j h1 h2 => absurd h2 (by simp)) ?_
    have hl : its.length = ds.length := by rw [← Paired.length rv, ha.length]
    cases ds with
    | nil =>
      have : its = [] := List.length_eq_zero_iff.mp hl
      subst this
      rfl
    | cons d1 r1 =>
      cases its with
      | nil => simp at hl
      | cons i1 r2 => simp [isNilD]
  | emp e =>
    cases rx
    obtain ⟨hz, hsm, vs, rel, o, es, ep, ho, hx, hd, hk, hp, _⟩ := dk_of I.hok e
    exact fin (rcDictTup ho hx.1 hd T0 hu1) rfl
end L2

set_option Elab.async false
set_option linter.all false
set_option maxRecDepth 100000
set_option maxHeartbeats 4000000
/-! What the package says of data: integers, names, places, steps, nets. -/
namespace L2
open PySem PySem.Spec PyProof.Rows PySem.KX
mutual
/-- lists, tuples, texts of at most 100000 -/
def smQ : PyData → Bool
  | .list xs => decide (xs.length ≤ 100000) && smQAll xs
  | .tuple xs => decide (xs.length ≤ 100000) && smQAll xs
  | .str x => decide (x.length ≤ 100000)
  | .dict _ => true
  | .none => true
  | .bool _ => true
  | .int _ => true
def smQAll : List PyData → Bool
  | [] => true
  | x :: xs => smQ x && smQAll xs
end
theorem smQ_tup {ds : List PyData} (h : smQ (.tuple ds) = true) : ds.length ≤ 100000 ∧ smQAll ds = true := by
  simp only [smQ, Bool.and_eq_true, decide_eq_true_eq] at h
  exact h
theorem smQ_lst {ds : List PyData} (h : smQ (.list ds) = true) : ds.length ≤ 100000 ∧ smQAll ds = true := by
  simp only [smQ, Bool.and_eq_true, decide_eq_true_eq] at h
  exact h
theorem smQ_mem : ∀ {ds : List PyData} {i : Nat} {d : PyData}, smQAll ds = true → ds[i]? = some d → smQ d = true
  | [], i, d, _, e => by simp at e
  | x :: xs, 0, d, h, e => by
    simp at e
    subst e
    simp only [smQAll, Bool.and_eq_true] at h
    exact h.1
  | x :: xs, i + 1, d, h, e => by
    simp only [smQAll, Bool.and_eq_true] at h
    exact smQ_mem (ds := xs) (i := i) h.2 (by simpa using e)
/-- data of bounded size -/
structure Wd (K : PySem.W.Frag) (H : Hp) (v : V) (d : PyData) : Prop where
  dq : Dq K H v d
  sm : smQ d = true
theorem Wd.same {K : PySem.W.Frag} {H H' : Hp} {v : V} {d : PyData} (e : Same H H') (h : Wd K H v d) : Wd K H' v d := ⟨Dq.same e _ _ h.dq, h.sm⟩
def isIntB : PyData → Bool
  | .int _ => true
  | .bool _ => true
  | _ => false
def isBoolB : PyData → Bool
  | .bool _ => true
  | _ => false
def isStrB : PyData → Bool
  | .str _ => true
  | _ => false
def isTupB : PyData → Bool
  | .tuple _ => true
  | _ => false
def isLstB : PyData → Bool
  | .list _ => true
  | _ => false
theorem kit_int : ∀ d : PyData, kitB (tyOfD d) "int" = some (isIntB d)
  | .none => (by decide +kernel : kitB "NoneType" "int" = some false)
  | .bool _ => (by decide +kernel : kitB "bool" "int" = some true)
  | .int _ => (by decide +kernel : kitB "int" "int" = some true)
  | .str _ => (by decide +kernel : kitB "str" "int" = some false)
  | .list _ => (by decide +kernel : kitB "list" "int" = some false)
  | .tuple _ => (by decide +kernel : kitB "tuple" "int" = some false)
  | .dict _ => (by decide +kernel : kitB "dict" "int" = some false)
theorem kit_bool : ∀ d : PyData, kitB (tyOfD d) "bool" = some (isBoolB d)
  | .none => (by decide +kernel : kitB "NoneType" "bool" = some false)
  | .bool _ => (by decide +kernel : kitB "bool" "bool" = some true)
  | .int _ => (by decide +kernel : kitB "int" "bool" = some false)
  | .str _ => (by decide +kernel : kitB "str" "bool" = some false)
  | .list _ => (by decide +kernel : kitB "list" "bool" = some false)
  | .tuple _ => (by decide +kernel : kitB "tuple" "bool" = some false)
  | .dict _ => (by decide +kernel : kitB "dict" "bool" = some false)
theorem kit_str : ∀ d : PyData, kitB (tyOfD d) "str" = some (isStrB d)
  | .none => (by decide +kernel : kitB "NoneType" "str" = some false)
  | .bool _ => (by decide +kernel : kitB "bool" "str" = some false)
  | .int _ => (by decide +kernel : kitB "int" "str" = some false)
  | .str _ => (by decide +kernel : kitB "str" "str" = some true)
  | .list _ => (by decide +kernel : kitB "list" "str" = some false)
  | .tuple _ => (by decide +kernel : kitB "tuple" "str" = some false)
  | .dict _ => (by decide +kernel : kitB "dict" "str" = some false)
theorem kit_tuple : ∀ d : PyData, kitB (tyOfD d) "tuple" = some (isTupB d)
  | .none => (by decide +kernel : kitB "NoneType" "tuple" = some false)
  | .bool _ => (by decide +kernel : kitB "bool" "tuple" = some false)
  | .int _ => (by decide +kernel : kitB "int" "tuple" = some false)
  | .str _ => (by decide +kernel : kitB "str" "tuple" = some false)
  | .list _ => (by decide +kernel : kitB "list" "tuple" = some false)
  | .tuple _ => (by decide +kernel : kitB "tuple" "tuple" = some true)
  | .dict _ => (by decide +kernel : kitB "dict" "tuple" = some false)
theorem kit_list : ∀ d : PyData, kitB (tyOfD d) "list" = some (isLstB d)
  | .none => (by decide +kernel : kitB "NoneType" "list" = some false)
  | .bool _ => (by decide +kernel : kitB "bool" "list" = some false)
  | .int _ => (by decide +kernel : kitB "int" "list" = some false)
  | .str _ => (by decide +kernel : kitB "str" "list" = some false)
  | .list _ => (by decide +kernel : kitB "list" "list" = some true)
  | .tuple _ => (by decide +kernel : kitB "tuple" "list" = some false)
  | .dict _ => (by decide +kernel : kitB "dict" "list" = some false)
def isIntD : PyData → Bool
  | .int _ => true
  | _ => false
def intIn (lo hi : Int) : PyData → Bool
  | .int i => decide (lo ≤ i) && decide (i ≤ hi)
  | _ => false
def lowC (c : Nat) : Bool := decide (97 ≤ c) && decide (c ≤ 122)
def isNameD : PyData → Bool
  | .str x => (decide (1 ≤ x.length) && decide (x.length ≤ 8)) && x.cps.toList.all lowC
  | _ => false
def ltD : PyData → PyData → Bool
  | .int i, .int j => decide (i < j)
  | .str x, .str y => decide (x.cps.toList < y.cps.toList)
  | _, _ => false
def ascD (ds : List PyData) : Bool := (ds.zip ds.tail).all fun p => ltD p.1 p.2
def placesD (n : Int) : PyData → Bool
  | .tuple ds => ds.all (intIn 0 (n - 1)) && ascD ds
  | _ => false
def stepD (n : Int) : PyData → Bool
  | .tuple [a, b, c] => isNameD a && (!isNilD b && (!isNilD c && (placesD n b && placesD n c)))
  | _ => false
def firstD : PyData → PyData
  | .tuple (a :: _) => a
  | _ => .none
def netD : PyData → Bool
  | .tuple [.int n, .tuple ds] => (decide (2 ≤ n) && decide (n ≤ 30)) && ((decide (1 ≤ ds.length) && decide (ds.length ≤ 40)) && (ds.all (stepD n) && ascD (ds.map firstD)))
  | _ => false
theorem acc_mapN {α : Type} {vs : List V} {l : List α} {f : α → Bool} (hl : vs.length = l.length) (h : ∀ (j : Nat) (v : V), vs[j]? = some v → ∃ a, l[j]? = some a ∧ v = .bl (f a)) : vs = (l.map f).map V.bl := by
  refine List.ext_getElem? fun j => ?_
  by_cases hj : j < vs.length
  · obtain ⟨d, h1, h2⟩ := h j _ (List.getElem?_eq_getElem hj)
    rw [List.getElem?_eq_getElem hj, h2, List.getElem?_map, List.getElem?_map, h1]
    rfl
  · rw [List.getElem?_eq_none (by omega), List.getElem?_eq_none (by simp; omega)]
theorem all_mapN {α : Type} {l : List α} {f : α → Bool} : (l.map f).all id = l.all f := by simp [List.all_map]
theorem low_a (c : Nat) : (!decide ((⟨#[c]⟩ : Str).cps.toList < ("a" : Str).cps.toList)) = decide (97 ≤ c) := by
  have h : (⟨#[c]⟩ : Str).cps.toList < ("a" : Str).cps.toList ↔ c < 97 := by
    show ([c] : List Nat) < [97] ↔ c < 97
    simp [List.cons_lt_cons_iff]
  by_cases hc : c < 97
  · rw [decide_eq_true (h.mpr hc), decide_eq_false (by omega)]; rfl
  · rw [decide_eq_false (fun z => hc (h.mp z)), decide_eq_true (by omega)]; rfl
theorem low_z (c : Nat) : (!decide (("z" : Str).cps.toList < (⟨#[c]⟩ : Str).cps.toList)) = decide (c ≤ 122) := by
  have h : ("z" : Str).cps.toList < (⟨#[c]⟩ : Str).cps.toList ↔ 122 < c := by
    show ([122] : List Nat) < [c] ↔ 122 < c
    simp [List.cons_lt_cons_iff]
  by_cases hc : 122 < c
  · rw [decide_eq_true (h.mpr hc), decide_eq_false (by omega)]; rfl
  · rw [decide_eq_false (fun z => hc (h.mp z)), decide_eq_true (by omega)]; rfl
/-- <: of ints, of texts -/
def rLtS : R2 := fun x y H Q => match x, y with
  | .int i, .int j => Q (.bl (decide (i < j))) H
  | .str i, .str j => Q (.bl (decide (i.cps.toList < j.cps.toList))) H
  | _, _ => False
theorem op_ltS {X : Cx} : OpR X (compareOp .Lt) rLtS := by
  intro pins s σ H x y v u Q I rx ry h
  cases x <;> cases y <;> first
    | exact h.elim
    | exact op_lt pins s σ H _ _ v u Q I rx ry ⟨_, _, rfl, rfl, h⟩
    | exact op_lt_str pins s σ H _ _ v u Q I rx ry ⟨_, _, rfl, rfl, h⟩
theorem gTup2_mono {K : PySem.W.Frag} {i j : Nat} : ∀ x σ H (q q' : St → Hp → Prop), gTup K 2 (gCons (gName i) (gCons (gName j) gNil)) x σ H q → (∀ σ H, q σ H → q' σ H) → gTup K 2 (gCons (gName i) (gCons (gName j) gNil)) x σ H q' :=
  fun _ _ _ _ _ ⟨a, xs, h1, h2, h3, v, r, h4, v2, r2, h5, h6, q⟩ k => ⟨a, xs, h1, h2, h3, v, r, h4, v2, r2, h5, h6, k _ _ q⟩
section
variable {X : Cx} {x : Str} {i : Int} {pos : Pos}
theorem pe_gint (hm : ∃ t, X.mg x = some (.int i t)) (hg : Gl X x := by rfl) (hd : (x == ("__debug__" : Str)) = false := by decide) : PE X (.Name x pos) (tC (.int i)) := by
  obtain ⟨t, hm⟩ := hm
  exact pe_glob hg hm ⟨t, rfl⟩ hd
end
end L2

set_option Elab.async false
set_option linter.all false
set_option maxRecDepth 100000
set_option maxHeartbeats 4000000
/-! Defs that may raise; == of a text and anything. -/
namespace L2
open PySem PySem.Spec PyProof.Rows PySem.KX
section
variable {X : Cx} {k j : Nat} {ps : List Str} {sp : Sp} {x : Str} {p pos : Pos} {e : Expr} {es : List Expr} {t : TA} {E : XK}
theorem pe_ownX (O : Own X.prog X.w X.K X.mg X.base (L2.CX X.prog X.w) x k ps sp) (hr : RoomG j X.A) (hx : Passes (L2.CX X.prog X.w) X E) (ha : PA X (e :: es) t) (hk : k ≤ j := by decide) (hg : Gl X x := by rfl) (hdb : (x == ("__debug__" : Str)) = false := by decide)
    (he : starEach (e :: es) X.env = (false, eval e X.env) :: starEach es X.env := by rfl) (hpl : (backTo pos (starEach es X.env)).any (·.1) = false := by rfl) : PE X (.Call (.Name x p) (e :: es) [] pos) (tCall sp [] E t) := by
  obtain ⟨f, fd, F, hm, hkp, hb⟩ := O.ex
  exact pe_callG F (hr.mono hk) hg hm hkp hb .nil hx ha hdb he hpl
end
/-- in a def's own body: what it may let out -/
theorem takesE {P : Program} {w : World} {K : PySem.W.Frag} {mg : Str → Option Value} {base : Heap} {N : List Str} {qual : Str} {scope : Scope} {f : Addr} {cdv : Value} {A : Around} {outer : List Env} {s : Shared} {H : Hp} {E : XK} :
    Takes (cxOf (L2.CX P w) P w K mg base N qual scope f cdv A outer s H E) (fun cls d _ H => E cls d H) := takes_of rfl rfl rfl rfl
theorem passE {P : Program} {w : World} {K : PySem.W.Frag} {mg : Str → Option Value} {base : Heap} {N : List Str} {qual : Str} {scope : Scope} {f : Addr} {cdv : Value} {A : Around} {outer : List Env} {s : Shared} {H : Hp} {E : XK} :
    Passes (L2.CX P w) (cxOf (L2.CX P w) P w K mg base N qual scope f cdv A outer s H E) E := passes_call takesE fun _ _ _ _ h => h
end L2

set_option Elab.async false
set_option linter.all false
set_option maxRecDepth 100000
set_option maxHeartbeats 4000000
/-! a text == x, whatever x. -/
namespace PySem
namespace KX
open SeqAt PySem.W PySem.Calls PyProof.Rows
theorem strD_declines (b : Str) (u : Tok) (p : Addr) (c : Value) (es : Array DictEntry) (k : Nat) (d1 : Option Addr) (z1 : Array (Option Value)) :
    Meets (Builtin.«str.__eq__» ⟨[.str b u, .ref p], []⟩) (fun _ R s => s.heap.get? p = some { cls := c, dict := d1, data := .dict es k, slots := z1 } ∧ R (.ok (.ret .notImplemented)) s) :=
  .of_wp fun prog w A R s hh => by
    obtain ⟨hp, g, d, tk, os⟩ := s
    obtain ⟨e1, hh⟩ := hh
    wp_walk using wpAny_loadPart' e1, wpAny_load e1
    exact ⟨_, rfl, hh⟩
theorem dictS_declines (p : Addr) (es : Array DictEntry) (k : Nat) (d1 : Option Addr) (z1 : Array (Option Value)) (b : Str) (u : Tok) :
    Meets (Builtin.«dict.__eq__» ⟨[.ref p, .str b u], []⟩) (fun _ R s => s.heap.get? p = some { cls := .type "dict", dict := d1, data := .dict es k, slots := z1 } ∧ R (.ok (.ret .notImplemented)) s) :=
  .of_wp fun prog w A R s hh => by
    obtain ⟨hp, g, d, tk, os⟩ := s
    obtain ⟨e1, hh⟩ := hh
    have f1 := F.sub_str_dict
    wp_walk using wpAny_loadPart' e1
    exact ⟨_, rfl, hh⟩
theorem rcStrDict {A : Around} {s : Shared} {p : Addr} {o : Obj} {es : Array DictEntry} {ep : Nat} (b : Str) (u : Tok) (ho : s.heap.get? p = some o) (hx : o.cls = .type "dict") (hd : o.data = .dict es ep) (hu : A.units < cLine) : RcAt A s (.str b u) (.ref p) false := fun prog w E Q h => by
  obtain ⟨c1, d1, t1, z1⟩ := o
  simp only at hx hd
  subst hx
  subst hd
  exact rc_eq_decline_or (k := false) (typeIs_str s b u) ⟨_, ho, rfl⟩ (by decide) F.sub_dict_str F.slot_str_eq F.slot_dict_eq_refl
    (fun _ hq => call_meets F.slot_str_eq (typeIs_str s b u) F.entry_str_eq (F.args_str_eq_2 _ _) (strD_declines b u p (.type "dict") es ep d1 z1) ⟨ho, hq⟩)
    (fun _ hq => call_meets F.slot_dict_eq_refl ⟨_, ho, rfl⟩ F.entry_dict_eq (F.args_dict_eq_2 _ _) (dictS_declines p es ep d1 z1 b u) ⟨ho, hq⟩)
    (fun _ hq => wpAny_of_eq (rfl : isSame (.str b u) (.ref p) = pure false) hq) (.inr hu) h
end KX
end PySem
namespace L2
open PySem PySem.Spec PyProof.Rows PySem.KX SeqAt
def isStrD (a : Str) : PyData → Bool
  | .str x => a == x
  | _ => false
def rEqStr (K : PySem.W.Frag) : R2 := fun x y H Q => ∃ a d, x = .str a ∧ Dq K H y d ∧ Q (.bl (isStrD a d)) H
theorem op_eqStr {X : Cx} (hu : X.A.units + 64 < cLine) : OpR X (compareOp .Eq) (rEqStr X.K) := by
  intro pins s σ H x y v u Q I rx ry h
  obtain ⟨a, d, rfl, hd, q⟩ := h
  obtain ⟨t, rfl⟩ := rx
  have hu1 : X.A.units < cLine := by omega
  have fin : ∀ {b : Bool}, RcAt X.A s (.str a t) u b → isStrD a d = b → wpAny (model X.prog X.w) X.A (compareOp .Eq (.str a t) u) (EP X pins σ Q) X.xe s := fun {b} rc e => rc X.prog X.w X.xe _ ⟨.bl b, H, I, rfl, e ▸ q⟩
  cases hd with
  | non =>
    cases ry
    exact fin (.str_none a t) rfl
  | bl b =>
    cases ry
    exact fin (.str_bool a t b) rfl
  | int i =>
    obtain ⟨t2, rfl⟩ := ry
    exact fin (.str_int a t i t2) rfl
  | str x =>
    obtain ⟨t2, rfl⟩ := ry
    exact fin (.str_str a t x t2) rfl
  | lst hs ha =>
    cases ry
    obtain ⟨its, rv, ⟨o, n, ho, hc, _, hd⟩, _⟩ := I.list hs
    exact fin (.str_list a t ⟨o, ho, hc, n, hd⟩ hu1) rfl
  | tup hs ha =>
    cases ry
    obtain ⟨its, rv, ⟨o, ho, hc, n, hd⟩, _⟩ := I.tuple hs
    exact fin (.str_tuple a t ⟨o, ho, hc, n, hd⟩ hu1) rfl
  | emp e =>
    cases ry
    obtain ⟨hz, hsm, vs, rel, o, es, ep, ho, hx, hd, hk, hp, _⟩ := dk_of I.hok e
    exact fin (rcStrDict a t ho hx.1 hd hu1) rfl
end L2

set_option Elab.async false
set_option linter.all false
set_option maxRecDepth 100000
set_option maxHeartbeats 4000000
/-! try: body, several except x as n clauses (n in slot i in each). -/
namespace L2
open PySem PySem.Spec PyProof.Rows PySem.KX
/-- what the clauses wish of an exception of the body, one after the other; slot i is the name's -/
def wManyN (K : PySem.W.Frag) (i : Nat) (Wout : WX) (D : Ends) : List (Value × (Addr → Value → Option Addr → TS)) → WX
  | [] => Wout
  | (c, ts) :: r => fun cls d σ H => ∃ b, PySem.W.exmOne K cls c = some b ∧
      (b = true → ∀ a, H a = none → ts a cls d { nx := fun σ' H' => D.nx (σ'.set i none) H', rt := D.rt, bk := fun σ' H' => D.bk (σ'.set i none) H', ct := fun σ' H' => D.ct (σ'.set i none) H' } (σ.set i (some (.ref a))) H) ∧ (b = false → wManyN K i Wout D r cls d σ H)
inductive HdsN (X : Cx) (n : Str) : List ExceptHandler → List (Value × (Addr → Value → Option Addr → TS)) → Prop
  | nil : HdsN X n [] []
  | cons {x : Str} {c : Value} {ts : Addr → Value → Option Addr → TS} {b₀ : Stmt} {suite : List Stmt} {np pos' : Pos} {hds : List ExceptHandler} {l : List (Value × (Addr → Value → Option Addr → TS))} (hc : Names X x c)
      (hsu : ∀ (a : Addr) (oe : Obj) (cls : Value) (d : Option Addr) (pn : List (Addr × Obj)), Zc cls d oe → (∃ vs, oe.data = .fields vs) → PSs (X.suite a ((a, oe) :: pn)) (b₀ :: suite) (ts a cls d)) (r : HdsN X n hds l) :
      HdsN X n (.ExceptHandler (some (.Name x np)) (some n) (b₀ :: suite) pos' :: hds) ((c, ts) :: l)
section
variable {X : Cx} {n : Str} {i : Nat} {body : List Stmt} {h₀ : ExceptHandler} {hds : List ExceptHandler} {l : List (Value × (Addr → Value → Option Addr → TS))} {pos : Pos} {tb : WX → TS} {Wout : WX}
theorem ps_try_asm (hs : X.stack = X.env :: X.outer) (hf : X.env.frame = some X.env.locals) (hN : X.N.Nodup) (hi : X.N[i]? = some n) (hln : X.env.kindOf n = some .local) (tk : Takes X Wout)
    (hb : ∀ (W : WX) (pn : List (Addr × Obj)) (xe : Value → Shared → Prop), Takes (X.tr pn xe) W → PassesOwn (model X.prog X.w) X.A X.env xe → PSs (X.tr pn xe) body (tb W))
    (hh : HdsN X n (h₀ :: hds) l) : PS X (.Try body (h₀ :: hds) [] [] pos) (fun D σ H => tb (wManyN X.K i Wout D l) D σ H) := by
  refine ⟨fun pins s σ H D I h => ?_⟩
  have ok := I.ok
  have hfr : X.A.frames = some (X.env :: X.outer) := by rw [ok.frames, hs]
  have hloc : Loc X.env.scope n := .inl hln
  refine wpAny_Try_except ?_
  refine wpAny_mono ((hb (wManyN X.K i Wout D l) (X.pn ++ pins) (fun e s₁ => wpAny (model X.prog X.w) X.A (noteFrame e X.env) (fun _ s₂ => wpAny (model X.prog X.w) X.A (setFlight e none) (fun _ s₃ =>
    wpAny (model X.prog X.w) X.A (handleBy e X.env (h₀ :: hds)) (SP X pins D) X.xe s₃) X.xe s₂) X.xe s₁) (fun u s' xx => ?_) PassesOwn.looking).run [] s σ H D (I.toTry _) h) (fun f s1 hsp => ?_) (fun e s1 he => he)
  · obtain ⟨a, B, sI, pins', σ', H', cls, d, rfl, J', nb, up, sky, na, os, ag, w⟩ := xx
    have J : Inv X pins σ' H' sI := J'.ofTry ok
    have sky' : Sky B (X.env :: X.outer) a (Zc cls d) X.env.locals s'.heap := by rw [← hs]; exact sky
    show wpAny (model X.prog X.w) X.A (noteFrame (.ref a) X.env) _ _ _
    refine Sky.land Zc.steady hfr hf sky' fun h3 fl3 up3 => ?_
    have J3 : Inv X pins σ' H' { s' with heap := h3 } := J.landed nb fl3.1 (up.trans up3) os ag
    obtain ⟨oe3, vs3, he3, hz3, hd3⟩ := fl3.there
    have notFr : ∀ {h : Heap} {o : Obj} {vs : Array Value}, h.FunFrames B (X.env :: X.outer) → h.get? a = some o → o.data = .fields vs → a ∉ frs (X.env :: X.outer) := fun {h o vs} ff e dd hm => by
      obtain ⟨_, o', e', hnf⟩ := ff.mem hm
      rw [e] at e'; cases e'
      exact hnf _ dd
    have nfr := notFr fl3.2.2.1 he3 hd3
    have nL : a ≠ X.env.locals := fun z => nfr (List.mem_filterMap.mpr ⟨X.env, List.mem_cons_self, by rw [hf, z]⟩)
    have nF : a ∉ X.fs := fun hm => by
      obtain ⟨e, he, q⟩ := List.mem_filterMap.mp hm
      exact nfr (List.mem_filterMap.mpr ⟨e, List.mem_cons_of_mem _ he, q⟩)
    have S3 := J3.suite he3 hd3 na nL nF
    have go : ∀ {hds' : List ExceptHandler} {l' : List (Value × (Addr → Value → Option Addr → TS))}, HdsN X n hds' l' → wManyN X.K i Wout D l' cls d σ' H' →
        wpAny (model X.prog X.w) X.A (handleBy (.ref a) X.env hds') (SP X pins D) X.xe { s' with heap := h3 } := by
      intro hds' l' hk
      induction hk with
      | nil =>
        intro w
        refine wpAny_handleBy_nil ?_
        obtain ⟨k1, k2, k3, oe, vs, T, oT, ts', he, hz, hd, h1, hr⟩ := id fl3
        unfold PySem.passOn
        refine wpAny_bind (wpAny_field he hd h1 ?_)
        rw [if_neg (show ¬ ((Value.ref T == Value.none) = true) from by simp)]
        have fin : wpAny (model X.prog X.w) X.A (setFlight (.ref a) X.env.frame) (fun _ s4 => wpAny (model X.prog X.w) X.A (throw (.ref a) : Sem Flow) (SP X pins D) X.xe s4) X.xe { s' with heap := h3 } := by
          rw [hf]
          refine HandSPX.setFlight_upZ fl3 fun h4 hh4 up4 => wpAny_throw (tk _ _ ?_)
          exact ⟨a, B, sI, pins, σ', H', cls, d, rfl, J, nb, (up.trans up3).trans up4, .inr (.inr (by rw [hs]; exact hh4)), na, os, ag, w⟩
        first
          | exact wpAny_bind (wpAny_pure (wpAny_bind fin))
          | exact wpAny_bind fin
      | @cons x c ts b₀ suite np pos' hds2 l2 hc hsu r ih =>
        intro w
        obtain ⟨b, hb1, hyes, hno⟩ := w
        refine wpAny_handleBy_cons (codeAny_handlers_test ?_) (by intro q; cases q)
        have LT : PySem.W.Looks (model X.prog X.w) h3 (typeOf (.ref a)) cls := fun A Q E s k q => wpAny_typeOf_ref (k _ _ he3) (by rw [hz3.1]; exact q)
        have LM := PySem.W.exm_one (M := model X.prog X.w) (J3.kIn) LT hb1
        have test : ∀ {Q : Value → Shared → Prop} {E : Value → Shared → Prop}, Q c { s' with heap := h3 } → wpAny (model X.prog X.w) (X.A.mark (some (.ref a))) (eval (.Name x np) X.env) Q E { s' with heap := h3 } := fun {Q E} q => by
          obtain ⟨hg, hdbg, hm | ⟨hm, hv, hnn⟩⟩ := hc
          · exact ld_glob (X := X.suite a ((a, oe3) :: (X.pn ++ pins))) S3 hg hm q hdbg
          · exact ld_blt (X := X.suite a ((a, oe3) :: (X.pn ++ pins))) S3 hg hm hv q hnn hdbg
        refine test (LM.here ?_)
        cases b with
        | true =>
          refine codeAny_handlers_suite_as ?_
          refine HandSPX.lands_againZ fl3 fun h4 fl4 up4 => ?_
          have J4 : Inv X pins σ' H' { s' with heap := h4 } := J.landed nb fl4.1 ((up.trans up3).trans up4) os ag
          obtain ⟨oe4, vs4, he4, hz4, hd4⟩ := fl4.there
          have S4 := J4.suite he4 hd4 na nL nF
          refine store_ok (X := X.suite a ((a, oe4) :: (X.pn ++ pins))) (v := .ref a) S4 hN hi hloc rfl (fun s5 S5 => ?_) (.inr hln)
          refine wpAny_mono ((hsu a oe4 cls d (X.pn ++ pins) hz4 ⟨_, hd4⟩).run [] s5 _ H' _ S5 (hyes rfl a na)) (fun f s6 hsp => ?_) (fun _ _ z => False.elim z)
          have end_ : ∀ {σ6 : St} {H6 : Hp} {Q : Shared → Prop}, Inv (X.suite a ((a, oe4) :: (X.pn ++ pins))) [] σ6 H6 s6 → (∀ s7, Inv X pins (σ6.set i none) H6 s7 → Q s7) →
              wpAny (model X.prog X.w) X.A (do bindName X.env n .none; unbindBehindTheSuite X.env n pos') (fun _ s7 => Q s7) X.xe s6 := fun {σ6 H6 Q} S6 hq => gone_ok (S6.unsuite ok) hN hi hln hq
          cases f with
          | next =>
            obtain ⟨σ6, H6, S6, q6⟩ := hsp
            exact end_ S6 fun s7 J7 => ⟨_, _, J7, q6⟩
          | brk =>
            obtain ⟨σ6, H6, S6, q6⟩ := hsp
            exact end_ S6 fun s7 J7 => ⟨_, _, J7, q6⟩
          | cont =>
            obtain ⟨σ6, H6, S6, q6⟩ := hsp
            exact end_ S6 fun s7 J7 => ⟨_, _, J7, q6⟩
          | ret u =>
            obtain ⟨v6, σ6, H6, S6, r6, q6⟩ := hsp
            exact end_ S6 fun s7 J7 => ⟨_, _, _, J7, r6, q6⟩
        | false =>
          show wpAny _ X.A (handleBy (.ref a) X.env hds2) _ _ _
          exact ih (hno rfl)
    exact go hh w
  · cases f with
    | next =>
      obtain ⟨σ', H', J', q⟩ := hsp
      exact wpAny_execs_nil ⟨σ', H', J'.ofTry ok, q⟩
    | brk =>
      obtain ⟨σ', H', J', q⟩ := hsp
      exact ⟨σ', H', J'.ofTry ok, q⟩
    | cont =>
      obtain ⟨σ', H', J', q⟩ := hsp
      exact ⟨σ', H', J'.ofTry ok, q⟩
    | ret u =>
      obtain ⟨v, σ', H', J', r, q⟩ := hsp
      exact ⟨v, σ', H', J'.ofTry ok, r, q⟩
end
end L2

set_option Elab.async false
set_option linter.all false
set_option maxRecDepth 100000
set_option maxHeartbeats 4000000
/-! The end of a law with lambdas, no repr under way. -/
namespace LamX
open PySem PySem.Spec PyProof.Rows L2
theorem law_callTG {P : Program} {w : World} {K : PySem.W.Frag} {mg mb : Str → Option Value} {CX : CXT} {k : Nat} {fa a : Addr} {cs : List (Addr × Addr)} {fd : FuncData} {x : Str} {sp : Sp} {s₁ : Shared} {vs : List Value} {ns : List Int}
    (KX : K.In s₁.heap) (hns : s₁.heap.Ns mainGlobals mg) (hb : s₁.heap.Ns builtinsNs mb) (hbb : ∀ x : Str, x ≠ "__name__" → mb x = bootBuiltins x) (hlim : s₁.heap.NoLimit) (hg : s₁.gens = #[])
    (hT : ∀ p ∈ cs, s₁.heap.get? p.2 = some { cls := .none, data := .fields #[] }) (nT : ∀ p ∈ cs, K.lookup p.2 = none) (C : ∀ p ∈ cs, PySem.W.CodeHd s₁.heap p.1 p.2)
    (hbm : ∃ (bm : Addr) (ob : Obj), mg "__builtins__" = some (.ref bm) ∧ bm ≠ builtinsNs ∧ s₁.heap.get? bm = some ob ∧ ob.cls = .type "module" ∧ ob.dict = some builtinsNs ∧ ob.data = .plain)
    (ha : s₁.heap.get? a = some { cls := .type "list", data := .seq vs.toArray }) (hi : IntsAre vs ns) (hl : ns.length ≤ sizeLine) (hr : Room k callerA)
    (F : ∀ base : Heap, K.In base → base.Ns mainGlobals mg → (∀ p ∈ cs, TabB base mg p.1 p.2) → FnG P w K mg base CX k fa fd [x] sp) (hbind : ∀ (s : Shared) (u : Value), BindsTo s fd ⟨[u], []⟩ [(x, u)])
    (hsp : ∀ H : Hp, (∀ p ∈ cs, H p.2 = some (.tbl #[])) → SqL K H a (ns.map V.int) → sp [.ref a] H (fun v _ => v = .bl true) fun _ _ _ => False)
    (hCX : ∀ H e s', CX [] H s₁ (fun _ _ _ => False) e s' → False) :
    codeAny (model P w) callerA (.call (.ref fa) ⟨[.ref a], []⟩) (fun r s' => r = .ok (.ret (.bool true)) ∧ OldK s₁.heap s'.heap ∧ s'.os = s₁.os ∧ AllBare s'.gens) s₁ := by
  have rv := vals_ints hi
  have lenV := hi.length
  have isT : ∀ b : Addr, b ∈ cs.map (·.2) → s₁.heap.get? b = some { cls := .none, data := .fields #[] } := fun b hb => by
    obtain ⟨p, hp, e⟩ := List.mem_map.mp hb
    rw [← e]
    exact hT p hp
  have aT : a ∉ cs.map (·.2) := fun z => by
    have q := isT a z
    rw [ha] at q
    have z' : Data.seq vs.toArray _ = Data.fields #[] := congrArg Obj.data (Option.some.inj q)
    cases z'
  have memT : ∀ p ∈ cs, p.2 ∈ cs.map (·.2) := fun p hp => List.mem_map.mpr ⟨p, hp, rfl⟩
  -- from an abstract heap in which nothing but the script and the tables may be tracked
  have core : ∀ H : Hp, (∀ p ∈ cs, H p.2 = some (.tbl #[])) → (∀ b, H b = none ∨ b ∈ cs.map (·.2) ∨ ∃ o xs, H b = some (.frz o (.lst xs))) → SqL K H a (ns.map V.int) → HOk P w H s₁.heap → (∀ b, H b ≠ none → b = a ∨ b ∈ cs.map (·.2)) → (H a ≠ none → K.lookup a = none) →
      codeAny (model P w) callerA (.call (.ref fa) ⟨[.ref a], []⟩) (fun r s' => r = .ok (.ret (.bool true)) ∧ OldK s₁.heap s'.heap ∧ s'.os = s₁.os ∧ AllBare s'.gens) s₁ := by
    intro H hH hO hS hok hA hK
    have base_of : ∀ {b : Addr} {o : Obj}, s₁.heap.get? b = some o → H b = none → (hidT s₁.heap H).get? b = some o := fun e n => hidT_get e n
    have noD : ∀ {b : Addr} {o : Obj}, s₁.heap.get? b = some o → (∀ vs n, o.data ≠ .seq vs n) → o.data ≠ .fields #[] → H b = none := fun {b o} e h1 h2 => by
      cases q : H b with
      | none => rfl
      | some u =>
        rcases hA b (by rw [q]; simp) with e' | e'
        · rw [e', ha] at e
          cases e
          exact (h1 _ _ rfl).elim
        · rw [isT b e'] at e
          cases e
          exact (h2 rfl).elim
    have noA : ∀ {b : Addr} {o : Obj} {es : Array DictEntry} {ep : Nat}, s₁.heap.get? b = some o → o.data = .dict es ep → H b = none := fun {b o es ep} e d => by
      refine noD e (fun vs n z => ?_) fun z => ?_
      · rw [d] at z
        cases z
      · rw [d] at z
        cases z
    have nsK : ∀ {b : Addr} {m : Str → Option Value}, s₁.heap.Ns b m → (hidT s₁.heap H).Ns b m := fun {b m} ⟨o, es, ep, e, d, r⟩ => ⟨o, es, ep, base_of e (noA e d), d, r⟩
    have hKb : K.In (hidT s₁.heap H) := fun b o e => base_of (KX b o e) (by
      cases q : H b with
      | none => rfl
      | some u =>
        rcases hA b (by rw [q]; simp) with e' | e'
        · rw [e'] at e q
          rw [hK (by rw [q]; simp)] at e
          cases e
        · obtain ⟨p, hp, ep⟩ := List.mem_map.mp e'
          rw [← ep, nT p hp] at e
          cases e)
    have hM : L2.Mod K mg (hidT s₁.heap H) := ⟨hKb, nsK hns, ⟨mb, nsK hb, hbb⟩, let ⟨mc, h1, h2⟩ := hlim; ⟨mc, nsK h1, h2⟩⟩
    have TB : ∀ p ∈ cs, TabB (hidT s₁.heap H) mg p.1 p.2 := fun p hp => by
      have hTp := hT p hp
      refine ⟨?_, ?_, fun z => ?_⟩
      · obtain ⟨o, us, file, tf, flags, tg, inF, text, tt, e1, r1, r2, r3, r4, r5, r6, r7, r8, hne⟩ := C p hp
        refine ⟨o, us, file, tf, flags, tg, inF, text, tt, base_of e1 (noD e1 (fun vs n z => ?_) fun z => ?_), r1, r2, r3, r4, r5, r6, r7, r8, hne⟩
        · rw [r2] at z
          cases z
        · rw [r2] at z
          cases z
          simp at r3
      · obtain ⟨bm, ob, b1, b2, b3, b4, b5, b6⟩ := hbm
        have nG : bm ≠ mainGlobals := fun q => by
          obtain ⟨o, es, ep, e, hd, _⟩ := hns
          rw [q, e] at b3
          cases b3
          rw [hd] at b6
          cases b6
        have nP : bm ≠ p.2 := fun q => by
          rw [q, hTp] at b3
          cases b3
          cases b6
        refine ⟨bm, ob, b1, b2, nG, nP, base_of b3 (noD b3 (fun vs n z => ?_) fun z => ?_), b4, b5, b6⟩
        · rw [b6] at z
          cases z
        · rw [b6] at z
          cases z
      · obtain ⟨o, es, ep, e, hd, _⟩ := hns
        rw [z, hTp] at e
        cases e
        cases hd
    have e0 : Env0 P w K mg (hidT s₁.heap H) callerA [] s₁ H := ⟨rfl, hM, fun b o e => of_hidT e, Nat.le_of_eq (hidT_size _ _), trivial, fun b hb => absurd (show b ∈ ([] : List Addr) from hb) (by simp), hok, .of_eq hg⟩
    refine codeAny_mono ((F _ hKb (nsK hns) TB).run callerA [] s₁ H ⟨[.ref a], []⟩ [.ref a] [.ref a] _ _ ⟨hr, rfl⟩ e0 (hbind s₁ (.ref a)) (.cons rfl .nil) (hsp H hH hS)) fun r s' h => ?_
    cases r with
    | error e => exact (hCX H e s' h).elim
    | ok fl =>
      cases fl with
      | next => exact False.elim h
      | brk => exact False.elim h
      | cont => exact False.elim h
      | ret u =>
        obtain ⟨v, H', os, bare, un, hok', r', q⟩ := h
        have q' : v = .bl true := q
        subst q'
        obtain rfl : u = Value.bool true := r'
        have key : ∀ b o, b ∉ cs.map (·.2) → s₁.heap.get? b = some o → s'.heap.get? b = some o := fun b o nb e => by
          cases q : H b with
          | none => exact un.keep b o e q (by intro z; exact absurd (show b ∈ ([] : List Addr) from z) (by simp)) (by simp)
          | some u =>
            rcases hO b with z | z | ⟨ob, xs, z⟩
            · rw [q] at z; cases z
            · exact absurd z nb
            · have z2 := un.frzs b ob _ z
              obtain ⟨e1, _⟩ := hok b _ z
              obtain ⟨e2, _⟩ := hok' b _ z2
              rw [e] at e1; cases e1
              exact e2
        have grown : ∀ p ∈ cs, ∃ more : Array Value, s'.heap.get? p.2 = some { cls := .none, data := .fields more } := fun p hp => by
          obtain ⟨more, z⟩ := un.tbls p.2 #[] (hH p hp)
          exact ⟨_, hok' p.2 _ z⟩
        refine ⟨rfl, ⟨fun b o e => ?_, fun b o e => ?_⟩, os, bare⟩
        · by_cases hb : b ∈ cs.map (·.2)
          · obtain ⟨p, hp, ep⟩ := List.mem_map.mp hb
            obtain ⟨more, hm⟩ := grown p hp
            rw [← ep] at e ⊢
            rw [hT p hp] at e
            cases e
            exact .inr (.inl ⟨((C p hp).tab (hT p hp)).isCodeTable, rfl, #[], more, rfl, by rw [Array.empty_append]; exact hm⟩)
          · exact .inl (key b o hb e)
        · by_cases hb : b ∈ cs.map (·.2)
          · obtain ⟨p, hp, ep⟩ := List.mem_map.mp hb
            obtain ⟨more, hm⟩ := grown p hp
            rw [← ep]
            exact ⟨_, hm⟩
          · exact ⟨o, key b o hb e⟩
  cases hk : K.lookup a with
  | some o =>
    have e := KX a o hk
    rw [ha] at e
    cases e
    refine core (fun b => if b ∈ cs.map (·.2) then some (.tbl #[]) else none) (fun p hp => if_pos (memT p hp)) (fun b => ?_) (.inr ⟨_, vs.toArray, _, hk, rfl, rfl, rfl, by rw [List.size_toArray, lenV]; exact hl, by simpa using rv⟩) (fun b u z => ?_) (fun b z => ?_) fun z => absurd (show (if a ∈ cs.map (·.2) then some (HO.tbl #[]) else none) = none from if_neg aT) z
    · by_cases hb : b ∈ cs.map (·.2)
      · exact .inr (.inl hb)
      · exact .inl (if_neg hb)
    · by_cases hb : b ∈ cs.map (·.2)
      · have z' := (if_pos hb).symm.trans z
        cases z'
        exact isT b hb
      · have z' := (if_neg hb).symm.trans z
        cases z'
    · by_cases hb : b ∈ cs.map (·.2)
      · exact .inr hb
      · exact absurd (if_neg hb) z
  | none =>
    refine core (fun b => if b = a then some (.frz { cls := .type "list", data := .seq vs.toArray } (.lst (ns.map V.int))) else if b ∈ cs.map (·.2) then some (.tbl #[]) else none) (fun p hp => (if_neg (show ¬ p.2 = a from fun z => aT (by rw [← z]; exact memT p hp))).trans (if_pos (memT p hp))) (fun b => ?_)
      (.inl (.inr ⟨{ cls := .type "list", data := .seq vs.toArray }, if_pos rfl⟩)) (fun b u z => ?_) (fun b z => ?_) fun _ => hk
    · by_cases hb : b = a
      · exact .inr (.inr ⟨_, _, if_pos hb⟩)
      · by_cases hb2 : b ∈ cs.map (·.2)
        · exact .inr (.inl hb2)
        · exact .inl ((if_neg hb).trans (if_neg hb2))
    · by_cases hb : b = a
      · have z' := (if_pos hb).symm.trans z
        cases z'
        rw [hb]
        exact ⟨ha, by rw [List.length_map]; exact hl, vs, _, rv, ha⟩
      · have z1 := (if_neg hb).symm.trans z
        by_cases hb2 : b ∈ cs.map (·.2)
        · have z' := (if_pos hb2).symm.trans z1
          cases z'
          exact isT b hb2
        · have z' := (if_neg hb2).symm.trans z1
          cases z'
    · by_cases hb : b = a
      · exact .inl hb
      · by_cases hb2 : b ∈ cs.map (·.2)
        · exact .inr hb2
        · exact absurd ((if_neg hb).trans (if_neg hb2)) z
def LawAtG (l : PySem.W.OpenLaw) (w : World) (K : PySem.W.Frag) (CX : CXT) (k n : Nat) (x : Str) (mg : Str → Option Value) (fa : Addr) (h : Heap) : Prop :=
  ∃ (fd : FuncData) (cs : List (Addr × Addr)) (sp : Sp), (∀ p ∈ cs, h.get? p.2 = some { cls := .none, data := .fields #[] }) ∧ (∀ p ∈ cs, K.lookup p.2 = none) ∧ (∀ p ∈ cs, PySem.W.CodeHd h p.1 p.2) ∧ (∀ (s : Shared) (u : Value), BindsTo s fd ⟨[u], []⟩ [(x, u)]) ∧
    (∀ (H : Hp) (a : Addr) (ns : List Int), ns.length ≤ n → (∀ z ∈ ns, Builtin.Int.intBits z ≤ 1048576) → (∀ p ∈ cs, H p.2 = some (.tbl #[])) → SqL K H a (ns.map V.int) → sp [.ref a] H (fun v _ => v = .bl true) fun _ _ _ => False) ∧
    ∀ base : Heap, K.In base → base.Ns mainGlobals mg → (∀ p ∈ cs, TabB base mg p.1 p.2) → FnG l.prog w K mg base CX k fa fd [x] sp
theorem walk_ofTG {l : PySem.W.OpenLaw} {n k : Nat} {q : Program} {loose : List Str} {XP : (Str → Option Value) → Heap → Prop} {YP : World → Heap → Prop} {d : DefRec} {K : Params → PySem.W.Frag} {CX : World → CXT} {x : Str}
    (hn : l.most = some n) (hn2 : n ≤ sizeLine) (hdf : d.params.defaults = []) (hr : Room k callerA) (hY : ∀ (w : World) (h : Heap), YP w h → (K w.params).In h)
    (F : ∀ (w : World) (mg : Str → Option Value) (fa : Addr) (h : Heap), YP w h → (K w.params).In h → h.Ns mainGlobals mg → mg d.name = some (.ref fa) → LawAtG l w (K w.params) (CX w) k n x mg fa h)
    (hCX : ∀ (w : World) (H : Hp) (s : Shared) (e : Value) (s' : Shared), CX w [] H s (fun _ _ _ => False) e s' → False) :
    PySem.W.WalkO q loose XP YP l.row.toRowW d [] (fun f vs => PySem.call f vs) := by
  refine Att.attach_callB hn hdf fun w s₀ s₁ mg mb fa o pm cd doc a vs ns G Y ho hd hcd hmg hobj hints hlen hbits hg => ?_
  have KX := hY w _ Y
  obtain ⟨fd, cs, sp, hT, nT, C, hb, hsp, hF⟩ := F w mg fa _ Y KX G.T.g hmg
  exact law_callTG KX G.T.g G.T.b G.T.builtins G.T.nolimit hg hT nT C G.T.bmain hobj hints (Nat.le_trans hlen hn2) hr hF hb (fun H hH hS => hsp H a ns hlen hbits hH hS) fun H e s' => hCX w H s₁ e s'
end LamX

set_option Elab.async false
set_option linter.all false
set_option maxRecDepth 100000
set_option maxHeartbeats 4000000
/-! Lambdas handed to a def, no repr under way. -/
namespace LamX
open PySem PySem.Spec PyProof.Rows L2
section
variable {X : Cx} {pins : List (Addr × Obj)} {σ : L2.St} {H HZ : Hp} {s s1 : Shared}
theorem pe_actG {CXg : CXT} {Eg : XK} {Ng : List Str} {qg : Str} {sg : Scope} {g f c' : Addr} {cdg pm ctv : Value} {params : Arguments} {body : Expr} {scope : Scope} {k i : Nat} {a : Str} {pn : List (Addr × Obj)} {xe : Value → Shared → Prop} {W : WX} {E : XK} {tb : TE} {p1 p2 : Pos}
    (I : Inv X pins σ H s) (L : LamS X.env.scope scope) (hf : s.heap.get? f = some (PySem.W.kla_obj "<lambda>" (X.env.qual ++ "<lambda>") params body scope (cloFrom X.env.cells scope.names []) pm c' ctv)) (hfn : H f = none) (hfr : f ∉ frs X.stack)
    (hbind : bindArgs (PySem.W.kla_fn "<lambda>" (X.env.qual ++ "<lambda>") params body scope (cloFrom X.env.cells scope.names []) pm (.ref c') ctv) ⟨[], []⟩ = pure [])
    (tk : Takes ((cxOf CXg X.prog X.w X.K X.mg X.base Ng qg sg g cdg X.A X.stack s H Eg).tr pn xe) W) (hW : ∀ cls d σ' H', E cls d H' → W cls d σ' H') (hr : RoomG (k + 1) (X.A.deeper (envOfC qg sg s.heap.objs.size g cdg)))
    (hbody : ∀ (A : Around) (outer : List Env) (s : Shared) (H : Hp), RoomG k (A.deeper (lamEnv X scope s.heap.objs.size f c')) → PE (lamCx X A outer s H E scope f c') body tb)
    (hN : Ng[i]? = some a) (hv : Vis sg a) (hd : (a == ("__debug__" : Str)) = false := by decide) (hcd : (a == ("__classdict__" : Str)) = false := by decide) :
    PE ((cxOf CXg X.prog X.w X.K X.mg X.base Ng qg sg g cdg X.A X.stack s H Eg).tr pn xe) (.Call (.Name a p1) [] [] p2)
      (fun σZ HZ Q => σZ[i]? = some (some (.ref f)) ∧ HZ c' = some (CodeO c' (X.env.qual ++ "<lambda>")) ∧ tb σ HZ Q) := by
  refine ⟨fun pinsZ sZ σZ HZ Q IZ h => ?_⟩
  obtain ⟨hs, hc, ht⟩ := h
  refine wpAny_Call_Name_kw (thn ((pe_var (pos := p1) (i := i) hN hv hd hcd).run pinsZ sZ σZ HZ (fun v H1 => v = .ref f ∧ H1 = HZ) IZ ⟨.ref f, hs, rfl, rfl⟩) fun u s1 ⟨v, H1, I1, r1, q1⟩ => ?_)
  obtain ⟨ev, eH⟩ := q1
  subst ev
  rw [eH] at I1
  obtain rfl : u = Value.ref f := r1
  have of1 : s1.heap.get? f = some (PySem.W.kla_obj "<lambda>" (X.env.qual ++ "<lambda>") params body scope (cloFrom X.env.cells scope.names []) pm c' ctv) := I1.base.keep f _ hf hfn hfr (fun z => nomatch (show f ∈ ([] : List Addr) from z))
  refine PySem.W.callWith_F0 ⟨_, _, _, _, of1⟩ ?_
  have un : Un (frs X.stack) [] H HZ s.heap s1.heap := I1.base
  obtain ⟨⟨oc, vs, t, hoc, hdc, hvc⟩, _, _⟩ := I1.hok c' _ hc
  have rc : codeAny (model X.prog X.w) (X.A.deeper (envOfC qg sg s.heap.objs.size g cdg)) (.call (.ref f) ⟨[], []⟩) (CR (L2.CX X.prog X.w) (envOfC qg sg s.heap.objs.size g cdg :: X.stack) X.prog X.w HZ s1 Q E) s1 := by
    refine PySem.W.kla_callFunE hr.r.depth of1 rfl L.co L.gen rfl ⟨c', oc, vs, t, rfl, hoc, hdc, hvc⟩ ?_
    rw [hbind]
    refine wpAny_pure (wpAny_newFunctionEnv (fun y hy => (L.own y hy).2) (fun y hy => absurd hy (by simp)) (fun h₁ hns hsb => ⟨I1.nolimit.fresh _ hsb, ?_⟩) L.kind)
    show codeAny _ _ (.expr body (lamEnv X scope s1.heap.objs.size f c')) _ _
    have kp : ∀ b o, s1.heap.get? b = some o → h₁.get? b = some o := fun b o e => hsb.extBut b o (Nat.ne_of_lt (Heap.lt_size e)) (Heap.get?_push_of_some _ e)
    have J : Inv (lamCx X (X.A.deeper (envOfC qg sg s.heap.objs.size g cdg)) (envOfC qg sg s.heap.objs.size g cdg :: X.stack) s1 HZ E scope f c') [] σ HZ { s1 with heap := h₁, toks := s1.toks + ([] : List (Str × Value)).length } :=
      lam_start2 I L I1.env0 hr.r.hd un hns kp
    refine PySem.W.kla_codeExpr (wpAny_mono ((hbody _ _ s1 HZ (hr.deeper _)).run [] _ _ HZ Q J ht) (fun v s' hq => ?_) fun e s' hq => hq)
    obtain ⟨w', H', J', rv, q⟩ := hq
    exact ⟨w', H', J'.os, J'.bare, J'.base, J'.hok, rv, q⟩
  have hx : Passes (L2.CX X.prog X.w) ((cxOf CXg X.prog X.w X.K X.mg X.base Ng qg sg g cdg X.A X.stack s H Eg).tr pn xe) E := passes_call tk hW
  refine wpAny_call (codeAny_mono rc fun r s' hq => ?_)
  cases r with
  | error e => exact hx pinsZ σZ HZ s1 e s' I1 hq
  | ok fl =>
    cases fl with
    | ret u => exact I1.after hq
    | next => exact False.elim hq
    | brk => exact False.elim hq
    | cont => exact False.elim hq
end
section
variable {X : Cx}
theorem pe_lamcallG {T : List (Addr × Str)} {TT : (XK → Hp → VK → Prop) → Hp → VK → Prop} {x a : Str} {g c P : Addr} {k : Nat} {pg : Arguments} {bg : List Stmt} {sg : Scope} {dV kV doc pm cdv ct oc : Value} {an od : Option Addr} {osl : Array (Option Value)} {Ng : List Str}
    {params : Arguments} {body : Expr} {scope : Scope} {t : XK → TE} {p lpos pos : Pos} (hg : Gl X x) (hm : X.mg x = some (.ref g)) (hk : PySem.W.keepIn X.K (.ref g) = true)
    (lk : X.K.lookup g = some ⟨oc, od, .func (PySem.W.fnOf x x pg bg sg dV kV doc pm an cdv ct), osl⟩) (hcg : PySem.W.codeIn X.K cdv x = true) (hb : L2.Binds X.K (PySem.W.fnOf x x pg bg sg dV kV doc pm an cdv ct) [a] []) (Sg : FnScope Ng [a] sg) (hNg : Ng[0]? = some a) (hva : Vis sg a)
    (hG : GivesTo X Ng x sg g cdv bg a (X.env.qual ++ "<lambda>") TT)
    (TB : TabB X.base X.mg c P) (hcode : X.env.code = .ref c) (hmT : (P, X.env.qual ++ "<lambda>") ∈ T) (hu : ∀ p ∈ T, p.1 = P → p.2 = X.env.qual ++ "<lambda>") (hr : RoomG (k + 2) X.A) (L : LamS X.env.scope scope) (hdef : defaultsOf params X.env = ([], []))
    (hbind : ∀ (q : Str) (cl : List (Str × Addr)) (pm cv ctv : Value), bindArgs (PySem.W.kla_fn "<lambda>" q params body scope cl pm cv ctv) ⟨[], []⟩ = pure [])
    (hbody : ∀ (A : Around) (outer : List Env) (s : Shared) (H : Hp) (E : XK) (f c' : Addr), RoomG k (A.deeper (lamEnv X scope s.heap.objs.size f c')) → PE (lamCx X A outer s H E scope f c') body (t E))
    (hdb : (x == ("__debug__" : Str)) = false := by decide) (hd : (a == ("__debug__" : Str)) = false := by decide) (hcd : (a == ("__classdict__" : Str)) = false := by decide) :
    PE X (.Call (.Name x p) [.Lambda params body scope lpos] [] pos) (tLam T TT t) := by
  refine ⟨fun pins s σ H Q I h => ?_⟩
  obtain ⟨hT, h⟩ := h
  refine wpAny_Call_Name_kw (ld_glob I hg hm ?_ hdb)
  refine PySem.W.callWith_K (h₀ := X.base) I.ok.mod.kin hk ?_ (by rfl) (by rfl)
  show wpAny _ _ (spliced ((false, eval (.Lambda params body scope lpos) X.env) :: backTo pos (starEach [] X.env))) _ _ s
  refine Calls.spliced_cons (lam_make2 I TB hcode hmT hu hT hdef (L.has I.ok) fun f c' pm' ctv H1 s' I1 eN T1 hf hfn hfr hco => ?_)
  refine Calls.spliced_nil ⟨I1.kIn, ?_⟩
  have rc : codeAny (model X.prog X.w) X.A (.call (.ref g) ⟨[.ref f], []⟩) (CR C8.CX0 X.stack X.prog X.w H1 s' Q C8.E0) s' := by
    refine run_ofS (N := Ng) (ps := [a]) (us := [.ref f]) (vs := [.ref f]) lk hcg Sg hr.r I1.env0 (hb s' [.ref f] I1.kIn rfl) (.cons rfl .nil) rfl fun hr' => ?_
    obtain ⟨t', ht', hq'⟩ := hG f c' s' H1 Q (fun E H' Q' => t E σ H' Q') (fun W pn xe E p1 p2 tk hW => pe_actG (i := 0) I1 L hf hfn hfr (hbind _ _ _ _ _) tk hW ⟨hr', hr.g⟩ (fun A outer s H hr2 => hbody A outer s H E f c' hr2) hNg hva hd hcd) hco (h H1 eN T1)
    exact ⟨t', ht'.nox, hq'⟩
  refine wpAny_call (codeAny_mono rc fun r s2 hq => ?_)
  cases r with
  | error e => exact (show False from hq).elim
  | ok fl =>
    cases fl with
    | ret u => exact I1.after hq
    | next => exact False.elim hq
    | brk => exact False.elim hq
    | cont => exact False.elim hq
end
end LamX

set_option Elab.async false
set_option linter.all false
set_option maxRecDepth 100000
set_option maxHeartbeats 4000000
/-! repr of any data; isinstance of the exception that a suite holds. -/
namespace L2
open PySem PySem.Spec PyProof.Rows PySem.KX
section
variable {X : Cx}
/-- repr(x) -/
def rReprW (K : PySem.W.Frag) : List V → Hp → VK → Prop := fun xs H Q => ∃ (v : V) (d : PyData), xs = [v] ∧ ((d.hasDict = false ∧ Dq K H v d) ∨ Dn K H v d) ∧ d.showable = true ∧ d.depth ≤ 60 ∧ d.shown.length ≤ sizeLine ∧ Q (.str d.shown) H
theorem call_reprW (hu : X.A.units + 64 < cLine) (hg : X.A.guards = some []) : CallR X (.builtin "repr") (rReprW X.K) := by
  intro pins s σ H xs us Q I r h
  obtain ⟨v, d, rfl, hd, h1, h3, h4, q⟩ := h
  have hd' : Dq X.K H v d := by
    rcases hd with ⟨_, hd⟩ | hd
    · exact hd
    · exact Dn.dq _ _ hd
  have rf : ∀ a, v = .ref a → wpAny (model X.prog X.w) X.A (call (.builtin "repr") us) (EP X pins σ Q) X.xe s := fun a e => by
    subst e
    exact call_reprQ hu hg pins s σ H _ us Q I r ⟨a, d, rfl, hd, h1, h3, h4, q⟩
  cases hd' with
  | non =>
    obtain ⟨u, rfl, ru⟩ := vals1 r
    cases ru
    exact PySem.P.repr_of_none ⟨.str _, H, I.kept (t' := s.toks + 1) fun _ _ e => e, ⟨_, rfl⟩, q⟩
  | bl b =>
    obtain ⟨u, rfl, ru⟩ := vals1 r
    cases ru
    exact PySem.P.repr_of_bool ⟨.str _, H, I.kept (t' := s.toks + 1) fun _ _ e => e, ⟨_, rfl⟩, q⟩
  | int i =>
    obtain ⟨u, rfl, t, rfl⟩ := vals1 r
    exact PySem.P.repr_of_int (of_decide_eq_true h1) ⟨.str _, H, I.kept (t' := s.toks + 1) fun _ _ e => e, ⟨_, rfl⟩, q⟩
  | str x =>
    obtain ⟨u, rfl, t, rfl⟩ := vals1 r
    exact PySem.P.repr_of_str ⟨.str _, H, I.kept (t' := s.toks + 1) fun _ _ e => e, ⟨_, rfl⟩, q⟩ h4
  | lst hs ha => exact rf _ rfl
  | tup hs ha => exact rf _ rfl
  | emp h => exact rf _ rfl
/-- isinstance(e, c), e the exception that the suite holds: class cls, dict d -/
def rIsX (K : PySem.W.Frag) (a : Addr) (cls : Value) (d : Option Addr) : List V → Hp → VK → Prop := fun xs H Q => ∃ (c : V) (u : Value) (b : Bool) (D : Addr), xs = [.ref a, c] ∧ ClsV c u ∧ cls = .ref D ∧ d = none ∧ XI K D ∧ PySem.W.kitOne K (.ref D) u = some b ∧ Q (.bl b) H
theorem call_isX {a : Addr} {oe : Obj} {cls : Value} {d : Option Addr} {pn : List (Addr × Obj)} (hz : Zc cls d oe) (hf : ∃ vs, oe.data = .fields vs) : CallR (X.suite a ((a, oe) :: pn)) (.builtin "isinstance") (rIsX X.K a cls d) := by
  intro pins s σ H xs us Q I r h
  obtain ⟨c, u, b, D, rfl, k, rfl, rfl, T, e, q⟩ := h
  obtain ⟨u1, u2, rfl, r1, r2⟩ := vals2 r
  have e2 := k.eq r2
  subst e2
  obtain rfl : u1 = Value.ref a := r1
  obtain ⟨hget, _⟩ := I.pin (a, oe) (List.mem_append.mpr (.inl List.mem_cons_self))
  obtain ⟨vs, hv⟩ := hf
  have J : PySem.W.InstAt s.heap a oe D none := by
    obtain ⟨oc, od, oda, osl⟩ := oe
    obtain ⟨h1, h2⟩ := hz
    dsimp only at h1 h2 hv
    subst h1 h2 hv
    exact ⟨hget, rfl, rfl, trivial⟩
  exact PySem.W.kia_one (PySem.W.kitx_exc (od := none) T.cl T.ga T.gg T.ex T.ca T.cn T.ct T.mo) I.kIn J e (fun z => nomatch z) fun tk => ⟨.bl b, H, I.tok tk, rfl, q⟩
/-- bs.count(k), bs bools -/
def eqb (k : Bool) (v : Value) : Bool := match v with
  | .bool b => b == k
  | _ => false
theorem vals_bl : ∀ {bs : List Bool} {us : List Value}, Vals (bs.map V.bl) us → us = bs.map Value.bool
  | [], _, h => by cases h; rfl
  | b :: r, _, h => by
    cases h with
    | cons h1 t =>
      cases h1
      rw [vals_bl t]
      rfl
theorem countb {k : Bool} : ∀ bs : List Bool, (bs.map Value.bool).countP (eqb k) = bs.count k
  | [] => rfl
  | b :: r => by
    have ih := countb (k := k) r
    rw [List.map_cons, List.countP_cons, List.count_cons, ih] <;> rfl
def rCntB (K : PySem.W.Frag) : V → List V → Hp → VK → Prop := fun x xs H Q => ∃ (p : Addr) (bs : List Bool) (k : Bool), x = .ref p ∧ xs = [.bl k] ∧ SqL K H p (bs.map V.bl) ∧ Q (.int (bs.count k : Nat)) H
theorem mt_bcount : MtR X "list.count" (rCntB X.K) := by
  intro pins s σ H x xs v us Q I rx rxs h
  obtain ⟨p, bs, k, rfl, rfl, hs, q⟩ := h
  cases rx
  obtain ⟨u, rfl, ru⟩ := rxs.one
  cases ru
  obtain ⟨its, rv, ⟨⟨cls, dd, data, sl⟩, n, ho, hc, hdn, hd⟩, hlen⟩ := I.list hs
  simp only at hc hd
  subst hc hd
  have hi := vals_bl rv
  subst hi
  refine call_meets PySem.F.slot_list_count ⟨_, ho, rfl⟩ PySem.F.entry_list_count (PySem.F.args_list_count_2 _ _)
    (SeqAt.list_countAt p (bs.map Value.bool).toArray n dd sl (.bool k) (eqb k)) ⟨ho, fun y hy => ?_, ?_⟩
  · obtain ⟨b, _, rfl⟩ := List.mem_map.mp (List.mem_toArray.mp hy)
    exact SeqAt.EqAt.bool_bool b k
  · refine ⟨.int (bs.count k : Nat), H, I.tok _, ⟨s.toks, ?_⟩, q⟩
    show Value.int ((((bs.map Value.bool).toArray.toList.countP (eqb k) : Nat) : Int)) s.toks = Value.int ((bs.count k : Nat) : Int) s.toks
    rw [show (bs.map Value.bool).toArray.toList = bs.map Value.bool from rfl, countb]
end
end L2

set_option Elab.async false
set_option linter.all false
set_option maxRecDepth 100000
set_option maxHeartbeats 4000000
/-! Own exceptions that keep a copy of any data. -/
namespace L2
open PySem PySem.Spec PyProof.Rows PySem.KX
/-- lists, tuples stay -/
def KeptQ (H H' : Hp) : Prop := ∀ b, (∀ xs, H b = some (.lst xs) → H' b = some (.lst xs)) ∧ (∀ xs, H b = some (.tup xs) → H' b = some (.tup xs)) ∧ (∀ o u, H b = some (.frz o u) → H' b = some (.frz o u)) ∧ (H b = some (.dK []) → H' b = some (.dK []))
theorem keptQ_ext {H H' : Hp} {b : Addr} {g : Heap → Prop} (e : H b = some (.ext g)) : (∀ xs, H b = some (.lst xs) → H' b = some (.lst xs)) ∧ (∀ xs, H b = some (.tup xs) → H' b = some (.tup xs)) ∧ (∀ o u, H b = some (.frz o u) → H' b = some (.frz o u)) ∧ (H b = some (.dK []) → H' b = some (.dK [])) := by
  rw [e]
  exact ⟨(fun _ z => nomatch z), (fun _ z => nomatch z), (fun _ _ z => nomatch z), (fun z => nomatch z)⟩
mutual
theorem Dq.keep {K : PySem.W.Frag} {H H' : Hp} (e : KeptQ H H') : ∀ (d : PyData) (v : V), Dq K H v d → Dq K H' v d
  | .none, _, h => by cases h; exact .non
  | .bool b, _, h => by cases h; exact .bl b
  | .int i, _, h => by cases h; exact .int i
  | .str x, _, h => by cases h; exact .str x
  | .list ds, _, h => by
    cases h with
    | lst hs ha =>
      refine .lst ?_ (DqAll.keep e ds _ ha)
      rcases hs with (hs | ⟨o, hs⟩) | hs
      · exact .inl (.inl ((e _).1 _ hs))
      · exact .inl (.inr ⟨o, (e _).2.2.1 _ _ hs⟩)
      · exact .inr hs
  | .tuple ds, _, h => by
    cases h with
    | tup hs ha =>
      refine .tup ?_ (DqAll.keep e ds _ ha)
      rcases hs with (hs | ⟨o, hs⟩) | hs
      · exact .inl (.inl ((e _).2.1 _ hs))
      · exact .inl (.inr ⟨o, (e _).2.2.1 _ _ hs⟩)
      · exact .inr hs
  | .dict _, _, h => by
    cases h with
    | emp h => exact .emp ((e _).2.2.2 h)
theorem DqAll.keep {K : PySem.W.Frag} {H H' : Hp} (e : KeptQ H H') : ∀ (ds : List PyData) (vs : List V), DqAll K H vs ds → DqAll K H' vs ds
  | [], _, h => by cases h; exact .nil
  | d :: ds, _, h => by
    cases h with
    | cons h1 h2 => exact .cons (Dq.keep e d _ h1) (DqAll.keep e ds _ h2)
end
/-- C.__init__(self, v): the one field is a copy of v -/
def spIniQ (K : PySem.W.Frag) (C : Addr) (f : Str) : Sp := fun vs H Q _ => ∃ (a : Addr) (v : V) (d : PyData), vs = [.ref a, v] ∧ H a = some (exo a C none) ∧ Dq K (hide [a] H) v d ∧ d.depth ≤ 10 ∧ smQ d = true ∧
  ∀ (H' : Hp) (dx : Addr) (v' : V), (∀ b o, b ≠ a → H b = some o → H' b = some o) → H dx = none → H' a = some (exo a C (some dx)) → H' dx = some (exd dx [(f, v')]) → Dq K H' v' d → Q .non H'
/-- what a caller knows of an own exception class that keeps a copy of its one argument -/
structure ErrQ (P : Program) (w : World) (K : PySem.W.Frag) (mg : Str → Option Value) (base : Heap) (x : Str) (C : Addr) (f : Str) (Bi newId initId : String) (bm : List Value) : Prop where
  B : XB Bi newId initId bm
  T : XCls K C newId bm
  xi : XI K C
  xc : XfC K C
  hno : PySem.W.findIn K (.ref C) f = some none
  g : mg x = some (.ref C)
  ini : ∃ fI fd, PySem.W.findIn K (.ref C) "__init__" = some (some (.ref fI)) ∧ PySem.W.typeIn K (.ref fI) = some (.type "function") ∧ FnOk P w K mg base CX0 12 fI fd ["self", f] (spIniQ K C f) ∧ Binds K fd ["self", f] []
/-- C(e) as a value -/
def tErrVQ (K : PySem.W.Frag) (C : Addr) (f : Str) (te : TE) : TE := fun σ H Q => te σ H fun v H1 => ∃ d, Dq K H1 v d ∧ d.depth ≤ 10 ∧ smQ d = true ∧
  ∀ (a dx : Addr) (v' : V) (H' : Hp), Same H1 H' → H1 a = none → H' a = some (exo a C (some dx)) → H' dx = some (exd dx [(f, v')]) → Dq K H' v' d → Q (.ref a) H'
/-- raise C(e) -/
def tErrXQ (K : PySem.W.Frag) (C : Addr) (f : Str) (te : TE) : St → Hp → XK → Prop := fun σ H Q => te σ H fun v H1 => ∃ d, Dq K H1 v d ∧ d.depth ≤ 10 ∧ smQ d = true ∧
  ∀ (dx : Addr) (v' : V) (H' : Hp), Same H1 H' → H1 dx = none → H' dx = some (.xd [(f, v')]) → Dq K H' v' d → Q (.ref C) (some dx) H'
section
variable {X : Cx} {e : Expr} {te : TE} {f : Str} {p pos : Pos} {Bi newId initId : String} {bm : List Value} {x : Str} {C : Addr} {j : Nat}
theorem PMk.imp2 {t t' : St → Hp → XK → Prop} (h : PMk X e t) (k : ∀ σ H Q, t' σ H Q → t σ H Q) : PMk X e t' := fun pins s σ H Q I q => h pins s σ H Q I (k σ H Q q)
theorem ini_hQ {H1 : Hp} {K : PySem.W.Frag} {a : Addr} {v : V} {d : PyData} {o : HO} (n : H1 a = none) (h : Dq K H1 v d) : Dq K (hide [a] (upd H1 a o)) v d := by
  rw [hide_upd, hide_new n, hide_nil]
  exact h
theorem ini_sameQ {H1 H' : Hp} {a : Addr} {o : HO} (n : H1 a = none) (k : ∀ b o', b ≠ a → upd H1 a o b = some o' → H' b = some o') : Same H1 H' := fun b o' q => by
  have hb : b ≠ a := ne_of_none q n
  exact k b o' hb (by rw [upd_ne hb]; exact q)
theorem pe_errQ (E : ErrQ X.prog X.w X.K X.mg X.base x C f Bi newId initId bm) (hr : RoomG j X.A) (he : PE X e te) (hj : 13 ≤ j := by decide) (hg : Gl X x := by rfl)
    (hdb : (x == ("__debug__" : Str)) = false := by decide) (hs : starEach [e] X.env = (false, eval e X.env) :: starEach [] X.env := by rfl) (hpl : (backTo pos (starEach [] X.env)).any (·.1) = false := by rfl) :
    PE X (.Call (.Name x p) [e] [] pos) (tErrVQ X.K C f te) := by
  obtain ⟨fI, fd, iC, tI, F1, hb⟩ := E.ini
  refine (pe_oexX E.B E.T iC tI F1 (hr.r.mono hj) hb pass0 E.g (pa_cons he.up pa_nil hs) hg hdb hs hpl).imp fun σ H Q h => ?_
  refine ⟨_, h, fun v H1 ⟨d, hd, h1, h2, k⟩ => ⟨by show 1 ≤ 1000; omega, fun a na => ?_⟩⟩
  refine ⟨a, v, d, rfl, upd_same, ini_hQ na hd, h1, h2, fun H' dx v' kp _ ea ed hv => ⟨rfl, ?_⟩⟩
  exact k a dx v' H' (ini_sameQ na kp) na ea ed hv
theorem pmk_errQ (E : ErrQ X.prog X.w X.K X.mg X.base x C f Bi newId initId bm) (hr : RoomG j X.A) (he : PE X e te) (hj : 13 ≤ j := by decide) (hg : Gl X x := by rfl)
    (hdb : (x == ("__debug__" : Str)) = false := by decide) (hs : starEach [e] X.env = (false, eval e X.env) :: starEach [] X.env := by rfl) (hpl : (backTo pos (starEach [] X.env)).any (·.1) = false := by rfl) :
    PMk X (.Call (.Name x p) [e] [] pos) (tErrXQ X.K C f te) := by
  obtain ⟨fI, fd, iC, tI, F1, hb⟩ := E.ini
  refine PMk.imp2 (pmk_oexX E.B E.T iC tI F1 (hr.r.mono hj) hb pass0 E.g (pa_cons he.up pa_nil hs) hg hdb hs hpl) fun σ H Q h => ?_
  refine ⟨_, h, fun v H1 ⟨d, hd, h1, h2, k⟩ => ⟨by show 1 ≤ 1000; omega, fun a na => ?_⟩⟩
  refine ⟨a, v, d, rfl, upd_same, ini_hQ na hd, h1, h2, fun H' dx v' kp nx ea ed hv => ⟨rfl, dx, [(f, v')], ea, ed, ?_, ?_⟩⟩
  · by_cases hd : dx = a
    · rw [hd, upd_same] at nx; cases nx
    · rw [upd_ne hd] at nx; exact nx
  · have ndx : dx ≠ a := fun hd => by rw [hd, upd_same] at nx; cases nx
    have n1 : H1 dx = none := by rw [upd_ne ndx] at nx; exact nx
    have s1 := ini_sameQ na kp
    refine k dx v' _ (fun b o q => ?_) n1 upd_same (Dq.keep (fun b => ?_) _ _ hv)
    · have hb1 : b ≠ dx := ne_of_none q n1
      have hb2 : b ≠ a := ne_of_none q na
      rw [upd_ne hb1]
      unfold del
      rw [if_neg hb2]
      exact s1 b o q
    · by_cases hb1 : b = dx
      · subst hb1
        exact keptQ_ext ed
      · by_cases hb2 : b = a
        · subst hb2
          exact keptQ_ext ea
        · rw [upd_ne hb1]
          unfold del
          rw [if_neg hb2]
          exact ⟨fun _ z => z, fun _ z => z, fun _ _ z => z, fun z => z⟩
end
end L2

set_option Elab.async false
set_option linter.all false
set_option maxRecDepth 100000
set_option maxHeartbeats 4000000
/-! set(t), sorted(set) of ints. -/
namespace L2
open PySem PySem.Spec PyProof.Rows PySem.KX
section
variable {X : Cx}
/-- set(t), t a tuple of ints -/
def rSetTI (K : PySem.W.Frag) (w : World) : List V → Hp → VK → Prop := fun xs H Q => ∃ (t : Addr) (ns : List Int), xs = [.ref t] ∧ SqT K H t (ns.map V.int) ∧ ns.length ≤ 60 ∧ ∀ (p : Addr) (c : Nat) (H' : Hp), Same H H' → H p = none → H' p = some (SetO w p (fun j => decide (j ∈ ns)) c) → c ≤ ns.length → Q (.ref p) H'
theorem call_setTI (hc : X.calm = true) : CallR X (.type "set") (rSetTI X.K X.w) := by
  intro pins s σ H xs us Q I r h
  obtain ⟨t, ns, rfl, ht, hn, q⟩ := h
  rw [Vals.ref1 r]
  obtain ⟨its, rv, hl, _⟩ := I.tuple ht
  have hi := ints_of_vals rv
  refine call_set_tupI ns (I.ok.hd hc) hl (by simpa using hi) (by have : scanBound = scanBound := rfl; show ns.length + 1 < scanBound; first | (unfold scanBound; omega) | omega) fun h' tk c R hcn k => ?_
  have hf : H s.heap.objs.size = none := I.hok.fresh (Nat.le_refl _)
  exact ⟨.ref s.heap.objs.size, upd H s.heap.objs.size (SetO X.w s.heap.objs.size (fun j => decide (j ∈ ns)) c), I.laid (t' := tk) k (Nat.le_refl _) (setO_new R), rfl, q _ c _ ((Same.refl _).new hf) hf upd_same hcn⟩
/-- sorted(S), S a set of ints -/
def rSortTI (w : World) : List V → Hp → VK → Prop := fun xs H Q => ∃ (a : Addr) (S : Int → Bool) (n : Nat), xs = [.ref a] ∧ H a = some (SetO w a S n) ∧ n < 64 ∧ ∀ (ns : List Int) (p : Addr) (H' : Hp), ns.Pairwise (· < ·) → (∀ k : Int, k ∈ ns ↔ S k = true) → ns.length = n → Same H H' → H p = none → H' p = some (.lst (ns.map V.int)) → Q (.ref p) H'
theorem call_sortTI (hc : X.calm = true) : CallR X (.builtin "sorted") (rSortTI X.w) := (cr_sortedSet hc).imp fun xs H Q ⟨a, S, n, e, h1, h2, k⟩ =>
  ⟨a, S, n, e, h1, h2, fun ns p q1 q2 q3 q4 => k ns p _ q1 q2 q3 ((Same.refl _).new q4) q4 upd_same⟩
end
/-- the same ints, ascending, each once -/
structure Tidy (ns ms : List Int) : Prop where
  asc : ms.Pairwise (· < ·)
  mem : ∀ k : Int, k ∈ ms ↔ k ∈ ns
theorem tidy_eq : ∀ {as bs : List Int}, as.Pairwise (· < ·) → bs.Pairwise (· < ·) → (∀ k : Int, k ∈ as ↔ k ∈ bs) → as = bs
  | [], [], _, _, _ => rfl
  | [], b :: bs, _, _, h => absurd ((h b).mpr List.mem_cons_self) (by simp)
  | a :: as, [], _, _, h => absurd ((h a).mp List.mem_cons_self) (by simp)
  | a :: as, b :: bs, h1, h2, h => by
    obtain ⟨a1, a2⟩ := List.pairwise_cons.mp h1
    obtain ⟨b1, b2⟩ := List.pairwise_cons.mp h2
    have e : a = b := by
      have m1 : a ∈ b :: bs := (h a).mp List.mem_cons_self
      have m2 : b ∈ a :: as := (h b).mpr List.mem_cons_self
      rcases List.mem_cons.mp m1 with z | z
      · exact z
      · rcases List.mem_cons.mp m2 with y | y
        · exact y.symm
        · have := b1 a z
          have := a1 b y
          omega
    subst e
    congr 1
    refine tidy_eq a2 b2 fun k => ⟨fun hk => ?_, fun hk => ?_⟩
    · rcases List.mem_cons.mp ((h k).mp (List.mem_cons_of_mem _ hk)) with z | z
      · have := a1 k hk
        omega
      · exact z
    · rcases List.mem_cons.mp ((h k).mpr (List.mem_cons_of_mem _ hk)) with z | z
      · have := b1 k hk
        omega
      · exact z
theorem Tidy.eq {ns ms ms' : List Int} (h : Tidy ns ms) (h' : Tidy ns ms') : ms = ms' := tidy_eq h.asc h'.asc fun k => (h.mem k).trans (h'.mem k).symm
end L2

set_option Elab.async false
set_option linter.all false
set_option maxRecDepth 100000
set_option maxHeartbeats 4000000
/-! Defs with *rest, no repr under way. -/
namespace L2
open PySem PySem.Spec PyProof.Rows
def FnRG (P : Program) (w : World) (K : PySem.W.Frag) (mg : Str → Option Value) (base : Heap) (CX : CXT) (k : Nat) (f : Addr) (sp : Sp) : Prop :=
  ∀ (A : Around) (outer : List Env) (s : Shared) (H : Hp) (us : List Value) (vs : List V) (Q : VK) (E : XK), RoomG k A → Env0 P w K mg base A outer s H → Vals vs us → sp vs H Q E →
    codeAny (model P w) A (.call (.ref f) ⟨us, []⟩) (CR CX outer P w H s Q E) s
section
variable {X : Cx} {pins : List (Addr × Obj)} {σ : St} {H : Hp} {s : Shared}
theorem run_fnRG {CX : CXT} {k : Nat} {f : Addr} {sp : Sp} {E : XK} {Q : VK} {us : List Value} {vs : List V} (F : FnRG X.prog X.w X.K X.mg X.base CX k f sp) (hr : RoomG k X.A) (hx : Passes CX X E) (I : Inv X pins σ H s) (r : Vals vs us) (h : sp vs H Q E) :
    codeAny (model X.prog X.w) X.A (.call (.ref f) ⟨us, []⟩) (fun r s' => match r with | .ok (.ret v) => EP X pins σ Q v s' | .ok _ => False | .error e => X.xe e s') s := by
  refine codeAny_mono (F X.A X.stack s H us vs Q E hr I.env0 r h) fun r s' hq => ?_
  cases r with
  | error e => exact hx pins σ H s e s' I hq
  | ok fl =>
    cases fl with
    | ret u => exact I.after hq
    | next => exact False.elim hq
    | brk => exact False.elim hq
    | cont => exact False.elim hq

end
end L2
namespace StX
open PySem PySem.Spec PyProof.Rows L2
section
variable {CX : CXT} {P : Program} {w : World} {K : PySem.W.Frag} {mg : Str → Option Value} {base : Heap} {k : Nat} {f : Addr} {name qual : Str} {params : Arguments} {body : List Stmt} {scope : Scope} {dV kV doc pm cdv ct oc : Value} {an od : Option Addr}
  {osl : Array (Option Value)} {N ps : List Str} {sp : Sp}
theorem run_bndG {A : Around} {outer : List Env} {s : Shared} {H : Hp} {args : Args} {Q : VK} {E : XK} {G : List V → Hp → Prop} (lk : K.lookup f = some ⟨oc, od, .func (PySem.W.fnOf name qual params body scope dV kV doc pm an cdv ct), osl⟩) (hcd : PySem.W.codeIn K cdv qual = true)
    (S : FnScope N ps scope) (hr : RoomG (k + 1) A) (e0 : Env0 P w K mg base A outer s H) (hb : Bnd CX P w K mg base (PySem.W.fnOf name qual params body scope dV kV doc pm an cdv ct) args ps A outer s H E G)
    (hbody : ∀ (s2 : Shared) (H2 : Hp) (vs : List V), G vs H2 → RoomG k (A.deeper (envOfC qual scope s2.heap.objs.size f cdv)) →
      ∃ t, PSs (cxOf CX P w K mg base N qual scope f cdv A outer s2 H2 E) body t ∧ t { nx := fun _ H' => Q .non H', rt := Q } (start N vs) H2) : codeAny (model P w) A (.call (.ref f) args) (CR CX outer P w H s Q E) s := by
  have KX : K.In s.heap := e0.mod.kin.keeps fun b o e => (e0.bs b o e).1
  refine codeAny_call_function hr.r.depth (KX _ _ lk) rfl S.co S.gen rfl (PySem.W.codeRec_of KX hcd) ?_
  refine hb _ _ _ fun s2 H2 vs us e2 un ho hx r hl g => ?_
  have lim : s2.heap.NoLimit := e0.mod.nolimit.keeps fun b o e => (e2.bs b o e).1
  have hkind : ∀ y ∈ ps.zip us, scope.names.lookup y.1 = some .local ∨ (scope.names.lookup y.1 = some .cell ∧ ((cellsFrom (s2.heap.objs.size + 1) scope.names []).lookup y.1).isSome = true) := fun y hy => by
    rcases S.par y.1 (List.of_mem_zip hy).1 with q | q
    · exact .inl q
    · exact .inr ⟨q, PySem.W.cellsFrom_some _ _ _ (.inl q)⟩
  refine wpAny_newFunctionEnv_cells (s := s2) S.kind hkind fun env he s1 x => ?_
  subst he
  refine ⟨lim.keeps x.toInCall.keep, codeAny_func ?_⟩
  obtain ⟨t, ht, hq⟩ := hbody s2 H2 vs g (hr.deeper _)
  have I : Inv (cxOf CX P w K mg base N qual scope f cdv A outer s2 H2 E) [] (start N vs) H2 s1 := inv_start S hr.r.hd e2 hl r x
  refine wpAny_mono (ht.run [] s1 _ _ _ I hq) (fun fl s' hs => ?_) fun e s' hs => ?_
  · have fin : ∀ {σ' : L2.St} {H' : Hp} {v' : V} {u' : Value}, Inv (cxOf CX P w K mg base N qual scope f cdv A outer s2 H2 E) [] σ' H' s' → RelV v' u' → Q v' H' → CE outer P w H s Q u' s' :=
      fun {σ' H' v' u'} J rv' q => ⟨v', H', J.os.trans ho, J.bare, un.trans J.base, J.hok, rv', q⟩
    cases fl with
    | ret u' =>
      obtain ⟨v', σ', H', J, rv', q⟩ := hs
      exact fin J rv' q
    | next =>
      obtain ⟨σ', H', J, q⟩ := hs
      exact fin (v' := V.non) (u' := Value.none) J rfl q
    | brk =>
      obtain ⟨_, _, _, q⟩ := hs
      exact False.elim q
    | cont =>
      obtain ⟨_, _, _, q⟩ := hs
      exact False.elim q
  · exact wpAny_mono hs (fun _ s'' z => hx e s'' z) fun e' s'' z => hx e' s'' z

theorem fn_starG {pv : Str} (lk : K.lookup f = some ⟨oc, od, .func (PySem.W.fnOf name qual params body scope dV kV doc pm an cdv ct), osl⟩) (hcd : PySem.W.codeIn K cdv qual = true) (S : FnScope N (ps ++ [pv]) scope) (hCX : CXUp CX)
    (hb : ∀ us rest : List Value, us.length = ps.length → bindArgs (PySem.W.fnOf name qual params body scope dV kV doc pm an cdv ct) ⟨us ++ rest, []⟩ = (newTuple rest >>= fun t => pure (ps.zip us ++ [(pv, t)])))
    (hbody : ∀ (A : Around) (outer : List Env) (s : Shared) (H : Hp) (vs : List V) (Q : VK) (E : XK), RoomG k (A.deeper (envOfC qual scope s.heap.objs.size f cdv)) → sp vs H Q E →
      ∃ t, PSs (cxOf CX P w K mg base N qual scope f cdv A outer s H E) body t ∧ t { nx := fun _ H' => Q .non H', rt := Q } (start N vs) H) :
    FnRG P w K mg base CX (k + 1) f (fun vs H Q E => ∃ ws rest, vs = ws ++ rest ∧ ws.length = ps.length ∧ rest.length ≤ sizeLine ∧ ∀ p, H p = Option.none → sp (ws ++ [V.ref p]) (upd H p (.tup rest)) Q E) := by
  intro A outer s H us vs Q E hr e0 r hsp
  obtain ⟨ws, rest, ev, hl, hz, hq⟩ := hsp
  subst ev
  obtain ⟨u1, u2, eu, r1, r2⟩ := vals_split r
  subst eu
  have hn : H s.heap.objs.size = Option.none := e0.hok.fresh (Nat.le_refl _)
  have hl1 : u1.length = ps.length := by rw [← r1.length]; exact hl
  have hl2 : u2.length ≤ sizeLine := by rw [← r2.length]; exact hz
  refine run_bndG lk hcd S hr e0 (G := fun xs H2 => ∃ p, H p = Option.none ∧ xs = ws ++ [V.ref p] ∧ H2 = upd H p (.tup rest)) (fun A' Ex Q' h => ?_) fun s2 H2 xs ⟨p, hp, ex, eH⟩ hr' => ?_
  · rw [hb u1 u2 hl1]
    refine wpAny_bind (wpAny_newTuple (wpAny_pure ?_) hl2)
    have new : ObjOk P w (upd H s.heap.objs.size (.tup rest)) (s.heap.push ({ cls := .type "tuple", data := .seq u2.toArray } : Obj)) s.heap.objs.size (.tup rest) := ⟨hz, u2, r2, ⟨_, Heap.get?_push_size _ rfl, rfl, _, rfl⟩⟩
    have un := un_laid (fs := frs outer) (s := s) (o := ({ cls := .type "tuple", data := .seq u2.toArray } : Obj)) (u := .tup rest) hn
    have z := h _ _ (ws ++ [V.ref s.heap.objs.size]) (u1 ++ [Value.ref s.heap.objs.size]) (env0_laid e0 new) un rfl (fun e s' => hCX outer s H _ _ E e s' un (fun b o q => Heap.get?_push_of_some _ q) rfl) (r1.append (.cons rfl .nil))
      (by rw [List.length_append, List.length_append, hl] <;> rfl) ⟨_, hn, rfl, rfl⟩
    rw [List.zip_append hl1.symm] at z
    exact z
  · subst ex eH
    exact hbody A outer s2 _ _ Q E hr' (hq p hp)

end
section
variable {X : Cx} {CX : CXT} {k : Nat} {f : Addr} {sp : Sp} {E : XK} {x : Str} {p pos : Pos} {e : Expr} {es : List Expr} {t : TA}
theorem pe_callRG (F : FnRG X.prog X.w X.K X.mg X.base CX k f sp) (hr : RoomG k X.A) (hk : PySem.W.keepIn X.K (.ref f) = true) (hg : Gl X x) (hm : X.mg x = some (.ref f)) (hx : Passes CX X E) (ha : PA X (e :: es) t) (hd : (x == ("__debug__" : Str)) = false := by decide)
    (he : starEach (e :: es) X.env = (false, eval e X.env) :: starEach es X.env := by rfl) (hpl : (backTo pos (starEach es X.env)).any (·.1) = false := by rfl) :
    PE X (.Call (.Name x p) (e :: es) [] pos) (fun σ H Q => t σ H fun vs H1 => sp vs H1 Q E) := by
  refine ⟨fun pins s σ H Q I h => ?_⟩
  refine wpAny_Call_Name_kw (ld_glob I hg hm ?_ hd)
  refine PySem.W.callWith_K (h₀ := X.base) I.ok.mod.kin hk (thn (ha.run pos pins s σ H _ I h) fun us s1 ⟨vs, H1, I1, r, q⟩ => ⟨I1.kIn, ?_⟩) he hpl
  exact wpAny_call (run_fnRG F hr hx I1 r q)
end
end StX

set_option Elab.async false
set_option linter.all false
set_option maxRecDepth 100000
set_option maxHeartbeats 4000000
/-! sorted(xs), a list of data of one shape. -/
namespace L2
open PySem PySem.Spec PyProof.Rows PySem.KX
open PySem.W (AllAlike Sortable dataLe EachIs)
section
variable {X : Cx}
/-- the items beside their data, in order -/
abbrev sortQ (ys : List V) (ds : List PyData) : List (V × PyData) := (ys.zip ds).mergeSort (dataLe false Prod.snd)
def rSortQ (K : PySem.W.Frag) : List V → Hp → VK → Prop := fun xs H Q => ∃ (a : Addr) (ys : List V) (ds : List PyData), xs = [.ref a] ∧ SqL K H a ys ∧ DqAll K H ys ds ∧ AllAlike ds ∧ Sortable ds ∧ ds.length ≤ 100000 ∧ (∀ d ∈ ds, d.depth ≤ 50) ∧
  ∀ (p : Addr) (H' : Hp), Same H H' → H p = none → H' p = some (.lst ((sortQ ys ds).map Prod.fst)) → Q (.ref p) H'
theorem zip_snd : ∀ {ys : List V} {ds : List PyData}, ys.length = ds.length → (ys.zip ds).map Prod.snd = ds
  | [], [], _ => rfl
  | [], d :: ds, h => nomatch h
  | y :: ys, [], h => nomatch h
  | y :: ys, d :: ds, h => by
    show d :: (ys.zip ds).map Prod.snd = d :: ds
    rw [zip_snd (by simpa using h)]
theorem each_rel : ∀ {ys : List V} {us : List Value} {ds : List PyData}, Vals ys us → ys.length = ds.length → EachIs (fun (u : Value) (p : V × PyData) => RelV p.1 u) us (ys.zip ds)
  | [], _, [], h, _ => by cases h; exact .nil
  | [], _, d :: ds, _, h => nomatch h
  | y :: ys, _, [], _, h => nomatch h
  | y :: ys, _, d :: ds, h, hl => by
    cases h with
    | cons h1 t => exact .cons h1 (each_rel t (by simpa using hl))
theorem each_reads {pins : List (Addr × Obj)} {σ : St} {H : Hp} {s : Shared} (I : Inv X pins σ H s) : ∀ {ys : List V} {us : List Value} {ds : List PyData}, Vals ys us → DqAll X.K H ys ds → EachIs (fun (u : Value) (p : V × PyData) => ∃ as, Reads s.heap u p.2 as) us (ys.zip ds)
  | [], _, _, h, hd => by cases h; cases hd; exact .nil
  | y :: ys, _, _, h, hd => by
    cases h with
    | cons h1 t =>
      cases hd with
      | cons d1 dt => exact .cons (Dq.reads I _ _ _ d1 h1) (each_reads I t dt)
theorem each_vals : ∀ {out : List Value} {bs : List (V × PyData)}, EachIs (fun (u : Value) (p : V × PyData) => RelV p.1 u) out bs → Vals (bs.map Prod.fst) out
  | _, _, .nil => .nil
  | _, _, .cons h t => .cons h (each_vals t)
theorem call_sortedQ (hu : X.A.units + 64 < cLine) : CallR X (.builtin "sorted") (rSortQ X.K) := by
  intro pins s σ H xs us Q I r h
  obtain ⟨a, ys, ds, rfl, hs, hd, hal, hk, hL, hdep, q⟩ := h
  obtain ⟨its, rv, hl, _⟩ := I.list hs
  rw [Vals.ref1 r]
  have hlen := hd.length
  have hz := zip_snd hlen
  refine PySem.W.sorted_data (enc := Prod.snd) hl.isList (each_rel rv hlen) (each_reads I rv hd) (by rw [hz]; exact hal) (by rw [hz]; exact hk) (by rw [List.length_zip, sizeLine_eq]; omega) (fun b hb => ?_) fun out h1 h2 => ?_
  · have hm : b.2 ∈ ds := by
      rw [← hz]
      exact List.mem_map.mpr ⟨b, hb, rfl⟩
    have := hdep _ hm
    omega
  · obtain ⟨ep, he'⟩ := sortedAll_at s.heap its out.toArray
    have hv := each_vals h2
    have hlen2 : ((sortQ ys ds).map Prod.fst).length ≤ sizeLine := by
      rw [hv.length, h1, List.length_zip, sizeLine_eq]
      omega
    have hn : H (s.heap.objs.size + 1) = none := I.hok.fresh (Nat.le_succ _)
    exact ⟨.ref _, upd H (s.heap.objs.size + 1) (.lst ((sortQ ys ds).map Prod.fst)), I.laid (t' := s.toks) (fun _ _ => sortedAll_old) (Nat.le_succ _) ⟨hlen2, out, ep, hv, he'⟩, rfl, q _ _ ((Same.refl _).new hn) hn upd_same⟩
end
end L2

set_option Elab.async false
set_option linter.all false
set_option maxRecDepth 100000
set_option maxHeartbeats 4000000
/-! Comprehensions with a condition, over any walk. -/
namespace L2
open PySem PySem.Spec PyProof.Rows PySem.KX
def tUpT (t : TT) : TT := fun σ H Q => ∃ Q0 : Bool → Hp → Prop, t σ H Q0 ∧ ∀ b H', Q0 b H' → Q b H'
theorem PT.up {X : Cx} {e : Expr} {t : TT} (h : PT X e t) : PT X e (tUpT t) :=
  ⟨fun pins s σ H Q I ⟨Q0, h0, k⟩ => wpAny_mono (h.run pins s σ H Q0 I h0) (fun b s1 ⟨H1, I1, q1⟩ => ⟨H1, I1, k b H1 q1⟩) fun _ _ z => z⟩
/-- the places below n that pass -/
abbrev pas (p : Nat → Bool) (n : Nat) : List Nat := (List.range n).filter p
theorem pas_yes {p : Nat → Bool} {n : Nat} (h : p n = true) : pas p (n + 1) = pas p n ++ [n] := by
  unfold pas
  rw [List.range_succ, List.filter_append, List.filter_cons_of_pos h, List.filter_nil]
theorem pas_no {p : Nat → Bool} {n : Nat} (h : p n = false) : pas p (n + 1) = pas p n := by
  unfold pas
  rw [List.range_succ, List.filter_append, List.filter_cons_of_neg (by rw [h]; decide), List.filter_nil, List.append_nil]
theorem pas_len {p : Nat → Bool} {n : Nat} : (pas p n).length ≤ n := by
  have := List.length_filter_le p (List.range n)
  rw [List.length_range] at this
  exact this
def AccF (R : Nat → V → Hp → Prop) (p : Nat → Bool) (D : Addr) (H1 : Hp) (n : Nat) (H' : Hp) : Prop := ∃ acc, H' D = some (.lst acc) ∧ Same H1 H' ∧ acc.length = (pas p n).length ∧ ∀ (i : Nat) (v : V), acc[i]? = some v → ∃ j, (pas p n)[i]? = some j ∧ R j v (hide [D] H')
theorem AccF.start {R : Nat → V → Hp → Prop} {p : Nat → Bool} {D : Addr} {H1 : Hp} (hD : H1 D = none) : AccF R p D H1 0 (upd H1 D (.lst [])) := ⟨[], upd_same, (Same.refl H1).new hD, rfl, fun j v h => nomatch h⟩
theorem AccF.skip {R : Nat → V → Hp → Prop} {p : Nat → Bool} {D : Addr} {H1 H' H4 : Hp} {n : Nat} (st : ∀ j v H H', Same H H' → R j v H → R j v H') (q : AccF R p D H1 n H') (s : Same H' H4) (hp : p n = false) : AccF R p D H1 (n + 1) H4 := by
  obtain ⟨acc, h1, h2, h3, h4⟩ := q
  refine ⟨acc, s _ _ h1, h2.trans s, by rw [pas_no hp]; exact h3, fun i v h => ?_⟩
  obtain ⟨j, e, r⟩ := h4 i v h
  exact ⟨j, by rw [pas_no hp]; exact e, st _ _ _ _ (hide_same s) r⟩
theorem AccF.snoc {R : Nat → V → Hp → Prop} {p : Nat → Bool} {D : Addr} {H1 H' H4 : Hp} {n : Nat} {y : V} (st : ∀ j v H H', Same H H' → R j v H → R j v H') (hD : H1 D = none) (hn : n < 1000000) (q : AccF R p D H1 n H') (s : Same H' H4) (hp : p n = true) (r : R n y (hide [D] H4)) :
    ∃ acc, H4 D = some (.lst acc) ∧ acc.length < sizeLine ∧ AccF R p D H1 (n + 1) (upd H4 D (.lst (acc ++ [y]))) := by
  obtain ⟨acc, h1, h2, h3, h4⟩ := q
  have hl := pas_len (p := p) (n := n)
  refine ⟨acc, s _ _ h1, by rw [sizeLine_eq]; omega, acc ++ [y], upd_same, fun b o e => ?_, by rw [pas_yes hp]; simp [h3], fun i v h => ?_⟩
  · rw [upd_ne (ne_of_none e hD)]
    exact s _ _ (h2 _ _ e)
  · rw [hide_upd, pas_yes hp]
    by_cases hi : i < acc.length
    · rw [List.getElem?_append_left hi] at h
      obtain ⟨j, e, r2⟩ := h4 i v h
      exact ⟨j, by rw [List.getElem?_append_left (by omega)]; exact e, st _ _ _ _ (hide_same s) r2⟩
    · rw [List.getElem?_append_right (by omega)] at h
      have e : i = acc.length := by
        have := (List.getElem?_eq_some_iff.mp h).1
        simp at this
        omega
      subst e
      have e2 : v = y := by
        rw [Nat.sub_self] at h
        simpa using h.symm
      subst e2
      exact ⟨n, by rw [List.getElem?_append_right (by omega), h3, Nat.sub_self]; rfl, r⟩
theorem lc_itF {J : It} {n : Nat} {G : Hp → Prop} {Y : Nat → Hp → V → Hp → Prop} (w : Walk J n G Y) {g : TG} {tt : TT} {t : TE} {vs : List Nat} {σ : St} {H1 : Hp} {D : Addr} {Qd : Hp → Prop} (p : Nat → Bool) (R : Nat → V → Hp → Prop) (st : ∀ j v H H', Same H H' → R j v H → R j v H') (hD : H1 D = none) (hx : n ≤ 1000000)
    (hG : ∀ H', Same H1 H' → G H')
    (hs : ∀ j x H' H2, j < n → Same H1 H' → H' D ≠ none → Y j H' x H2 → g x (wipe σ vs) H2 fun σ3 H3 => wipe σ3 vs = wipe σ vs ∧ tt σ3 H3 fun b H4 => b = p j ∧ Same H' H4 ∧ (b = true → t σ3 H4 fun y H5 => Same H' H5 ∧ R j y (hide [D] H5)))
    (hg : ∀ x σ H (q q' : St → Hp → Prop), g x σ H q → (∀ σ H, q σ H → q' σ H) → g x σ H q')
    (hd : ∀ H' acc, Same H1 H' → H' D = some (.lst acc) → acc.length = (pas p n).length → (∀ (i : Nat) (v : V), acc[i]? = some v → ∃ j, (pas p n)[i]? = some j ∧ R j v H') → Qd H') :
    ∃ W : Nat → Nat → Hp → Prop, (∃ m, W 0 m (upd H1 D (.lst []))) ∧ ∀ i m H, W i m H →
      (J.stop i H ∧ Qd H) ∨ (J.go i H ∧ ∃ Nx : Hp → Prop, (∀ H', Nx H' → ∃ m', m' < m ∧ W (i + 1) m' H') ∧ ∀ x H', J.yld i H x H' → g x (wipe σ vs) H' fun σ2 H2 => wipe σ2 vs = wipe σ vs ∧ tUpT tt σ2 H2 fun b H3 =>
        if b = true then tUp t σ2 H3 fun y H4 => ∃ acc, H4 D = some (.lst acc) ∧ acc.length < sizeLine ∧ Nx (upd H4 D (.lst (acc ++ [y]))) else Nx H3) := by
  refine lc_it w (tt := tUpT tt) (te := tUp t) (fun i H' => AccF R p D H1 i H') (AccF.start hD) (fun i H' _ ⟨_, _, s, _⟩ => hG _ s) (fun i x H' H2 hi q y => ?_) (fun H' ⟨acc, h1, h2, h3, h4⟩ => hd H' acc h2 h1 h3 fun j v h => ?_)
  · have hs2 := q
    obtain ⟨a0, e0, s, _⟩ := hs2
    have th : H' D ≠ none := by rw [e0]; exact fun z => nomatch z
    refine hg _ _ _ _ _ (hs i x H' H2 hi s th y) fun σ2 H3 ⟨w, h⟩ => ⟨w, _, h, fun b H4 ⟨eb, s4, k⟩ => ?_⟩
    cases b with
    | true =>
      rw [if_pos rfl]
      exact ⟨_, k rfl, fun y H5 ⟨s5, r⟩ => AccF.snoc st hD (by omega) q s5 eb.symm r⟩
    | false =>
      rw [if_neg (by decide)]
      exact AccF.skip st q s4 eb.symm
  · obtain ⟨j', e, r⟩ := h4 j v h
    exact ⟨j', e, st _ _ _ _ hide_sub r⟩
end L2

set_option Elab.async false
set_option linter.all false
set_option maxRecDepth 100000
set_option maxHeartbeats 4000000
/-! not in a range; new lists that lie past the first places. -/
namespace L2
open PySem PySem.Spec PyProof.Rows PySem.KX
section
variable {X : Cx}
def rNotInRng : R2 := fun x y H Q => ∃ i a lo hi, x = V.int i ∧ y = V.ref a ∧ H a = some (.rng lo hi) ∧ Q (.bl (!decide (lo ≤ i ∧ i < hi))) H
theorem op_notIn_rng : OpR X (compareOp .NotIn) rNotInRng := by
  intro pins s σ H x y v u Q I rx ry h
  obtain ⟨i, a, lo, hi, rfl, rfl, ha, q⟩ := h
  obtain ⟨k, rfl⟩ := rx
  obtain rfl : u = Value.ref a := ry
  obtain ⟨t1, t2, t3, ho⟩ := I.hok a _ ha
  show wpAny _ _ (do return Value.bool (!(← contains (Value.ref a) (Value.int i k)))) _ _ s
  refine wpAny_bind (wpAny_contains_slot (T := "range") ⟨_, ho, rfl⟩ F.slot_range_contains (call_meets F.slot_range_contains ⟨_, ho, rfl⟩ F.entry_range_contains (F.args_range_contains_2 _ _) (q_contains a lo hi i t1 t2 t3 k)
    ⟨ho, wpAny_truthy_bool (wpAny_pure ⟨.bl _, H, I, rfl, ?_⟩)⟩))
  rw [place1]
  exact q
/-- range(a, b) as a value -/
def rRngS : List V → Hp → VK → Prop := fun vs H Q => ∃ i j, vs = [V.int i, V.int j] ∧ ∀ p H', Same H H' → H p = none → H' p = some (.rng i j) → Q (.ref p) H'
theorem call_rngS : CallR X (.type "range") rRngS := cr_range2.imp fun xs H Q ⟨i, j, e, k⟩ => ⟨i, j, e, fun p n => k p _ ((Same.refl _).new n) n upd_same⟩
/-- [e, ..], not at the place of sys.modules -/
def tLstN (t : TA) : TE := fun σ H Q => t σ H fun xs H1 => xs.length ≤ 1000000 ∧ ∀ p H', (p == sysModules) = false → Same H1 H' → H1 p = none → H' p = some (.lst xs) → Q (.ref p) H'
theorem pe_lstN {es : List Expr} {t : TA} {pos : Pos} (h : PA X es t) : PE X (.List es pos) (tLstN t) := by
  refine ⟨fun pins s σ H Q I hq => ?_⟩
  refine wpAny_List_spliced (thn (h.run pos pins s σ H _ I hq) fun us s1 ⟨xs, H1, I1, r, z, q⟩ => ⟨by rw [← r.length]; exact small_size z, ?_⟩)
  have hf : H1 s1.heap.objs.size = none := I1.hok.fresh (Nat.le_refl _)
  have hb := I1.big
  refine ⟨.ref s1.heap.objs.size, upd H1 s1.heap.objs.size (.lst xs), I1.laid (t' := s1.toks) (fun b u e => Heap.get?_push_of_some _ e) (Nat.le_refl _) ?_, rfl, q _ _ ?_ ((Same.refl _).new hf) hf upd_same⟩
  · exact ⟨small_size z, us, 0, r, Heap.get?_push_size _ rfl⟩
  · exact beq_eq_false_iff_ne.mpr (Nat.ne_of_gt hb)
end
end L2

set_option Elab.async false
set_option linter.all false
set_option maxRecDepth 100000
set_option maxHeartbeats 4000000
/-! set(a list of ints). -/
namespace L2
open PySem PySem.Spec PyProof.Rows
section
variable {P : Program} {w : World} {A : Around} {E : Value → Shared → Prop} {s : Shared} {a : Addr}
set_option maxRecDepth 100000 in
set_option maxHeartbeats 3200000 in
theorem call_set_lstI {l : Addr} {items : Array Value} (ns : List Int) {Q : Value → Shared → Prop} (hh : A.handled = none) (hl : s.heap.IsList l items) (hit : IntsAre items.toList ns) (hb : ns.length + 1 < scanBound)
    (h : ∀ (h' : Heap) (tk c : Nat), SetR w h' s.heap.objs.size (fun j => decide (j ∈ ns)) c → c ≤ ns.length → (∀ b o, s.heap.get? b = some o → h'.get? b = some o) → Q (.ref s.heap.objs.size) { s with heap := h', toks := tk }) :
    wpAny (model P w) A (call (.type "set") [.ref l]) Q E s := by
  have hisz : items.size = ns.length := by
    have q := IntsAre.length hit
    rw [Array.length_toList] at q
    exact q
  obtain ⟨c, tl, hmro⟩ := F.called_set.mro
  have hmade := F.called_set.made
  have hsub := F.called_set.sub
  refine wpAny_call (codeAny_of_tree ?_)
  show wpAny _ _ (callAny (.type "set") _) _ _ _
  refine wpAny_pure ⟨Code.quiet_builtin _ (by decide +kernel), codeAny_builtin F.entry_type_call ?_⟩
  rw [Around.under_plain (weight_type_call_type "set" [.ref l] []) rfl]
  have h1 := F.called_set.notType
  have h2 := F.called_set.canCreate
  have hct := F.typeCall_set_1 (.ref l)
  repeat (any_goals (first | assumption | wp_step))

  refine codeAny_mono (code_set_led1 (.ref l) (E := E) (Q₁ := fun obj s₁ => obj = .ref s.heap.objs.size ∧ s₁ = { s with heap := s.heap.push { cls := .type "set", dict := none, data := .set #[] 0 (.fresh 0 0 (!w.params.followText "set-order")) } }) ⟨rfl, rfl⟩) fun r s₁ hr => ?_
  cases r with
  | error e => exact hr
  | ok fl =>
    cases fl with
    | ret obj =>
      obtain ⟨rfl, rfl⟩ := hr
      have hS : (s.heap.push { cls := .type "set", dict := none, data := .set #[] 0 (.fresh 0 0 (!w.params.followText "set-order")) }).get? s.heap.objs.size = some { cls := .type "set", dict := none, data := .set #[] 0 (.fresh 0 0 (!w.params.followText "set-order")) } := Heap.get?_push_size _ rfl
      have hT : Shared.TypeIs { s with heap := s.heap.push { cls := .type "set", dict := none, data := .set #[] 0 (.fresh 0 0 (!w.params.followText "set-order")) } } (.ref s.heap.objs.size) "set" := ⟨_, hS, rfl⟩
      have hli := F.called_set.init.lookup
      have hbi := F.called_set.init.bind (.ref s.heap.objs.size)
      repeat (any_goals (first | assumption | wp_step))

      refine codeAny_mono (codeAny_call_builtin (R := wants (fun r s₂ => r = .none ∧ ∃ h' tk c, s₂ = { s with heap := h', toks := tk } ∧ SetR w h' s.heap.objs.size (fun j => decide (j ∈ ns)) c ∧ c ≤ ns.length ∧
          (∀ b o, s.heap.get? b = some o → h'.get? b = some o)) E) F.called_set.init.plain F.entry_set_init (check_set_init_1 hT ?_)) fun r₂ s₂ hr₂ => ?_
      · obtain ⟨ol, hol, hcl, nl, hdl⟩ := hl
        obtain ⟨ocls, odict, odata, oslots⟩ := ol
        simp only at hcl hdl
        subst hcl; subst hdl
        have hol' : (s.heap.push { cls := .type "set", dict := none, data := .set #[] 0 (.fresh 0 0 (!w.params.followText "set-order")) }).get? l = some { cls := .type "list", dict := odict, data := .seq items nl, slots := oslots } := Heap.get?_push_of_some _ hol
        have hsls := F.sub_list_set
        have hslf := F.sub_list_frozenset
        have hne : (Value.type "list" == Value.type "dict") = false := by decide
        have hl1 : (s.heap.push { cls := .type "set", dict := none, data := .set #[] 0 (.fresh 0 0 (!w.params.followText "set-order")) }).IsList l items := ⟨_, hol', rfl, nl, rfl⟩
        unfold Builtin.«set.__init__» noKeywords Builtin.Frozenset.updateFrom
        generalize hPI : pyIter = PI
        wp_walk
        subst hPI

        refine wpAny_pyIter_list hl1 ?_
        refine wpAny_bind (wpAny_runValue ?_)
        have hlS : l < s.heap.objs.size := Heap.lt_size hol
        have hh3 : A.in1.in1.in1.handled = none := by simp [hh]
        have hz1 : (s.heap.push { cls := .type "set", dict := none, data := .set #[] 0 (.fresh 0 0 (!w.params.followText "set-order")) }).objs.size = s.heap.objs.size + 1 := Heap.size_push ..
        have hneI : l ≠ (s.heap.push { cls := .type "set", dict := none, data := .set #[] 0 (.fresh 0 0 (!w.params.followText "set-order")) }).objs.size := by
          rw [Heap.size_push]; exact Nat.ne_of_lt (Nat.lt_succ_of_lt hlS)
        have hSf : s.heap.objs.size ∉ [(s.heap.push { cls := .type "set", dict := none, data := .set #[] 0 (.fresh 0 0 (!w.params.followText "set-order")) }).objs.size, l] := by
          rw [Heap.size_push]; simp only [List.mem_cons, List.mem_singleton, List.not_mem_nil, or_false, not_or]
          exact ⟨Nat.ne_of_lt (Nat.lt_succ_self _), Nat.ne_of_gt hlS⟩
        have hval : ∀ (i : Nat) (v : Value), items[i]? = some v → ∃ k t, ns[i]? = some k ∧ v = .int k t := fun i v hv => by
          have hi : i < ns.length := by rw [← hisz]; exact (Array.getElem?_eq_some_iff.mp hv).1
          obtain ⟨t, e⟩ := PyProof.Rows.IntsAre.int_at hit i v (by rw [Array.getElem?_toList]; exact hv)
          refine ⟨ns[i], t, List.getElem?_eq_getElem hi, ?_⟩
          rw [e, List.getD_eq_getElem?_getD, List.getElem?_eq_getElem hi] <;> rfl
        refine set_update_ints ((Walks.list hh3 _ l hneI items).toS) s.heap.objs.size
          hSf ns hisz hb hval (items.size - 0) 0 _ (by omega) (Nat.zero_le _)
          ⟨⟨_, Heap.get?_push_size _ rfl, rfl, rfl⟩, (hl1.push _)⟩ ?hS0 ?hR
        case hS0 =>
          have hget : ((s.heap.push { cls := .type "set", dict := none, data := .set #[] 0 (.fresh 0 0 (!w.params.followText "set-order")) }).push { cls := .type "list_iterator", data := .fields #[.ref l, .int 0 0] }).get? s.heap.objs.size
              = some { cls := .type "set", dict := none, data := .set #[] 0 (.fresh 0 0 (!w.params.followText "set-order")) } := Heap.get?_push_of_some _ hS
          exact ⟨0, Nat.le_refl 0, setR_new_at hget⟩
        case hR =>
          intro s' c' hm hc' hS'
          obtain ⟨h', g2, d', tk', os'⟩ := s'
          have eg : g2 = s.gens := hm.gens
          have ed : d' = s.drawn := hm.drawn
          have eo : os' = s.os := hm.os
          subst eg; subst ed; subst eo
          show wpAny _ _ _ _ _ _
          refine wpAny_pure ?_
          show wpAny _ _ (ret Value.none) _ _ _
          rw [hisz] at hc'
          refine wpAny_pure ⟨rfl, h', tk', c', rfl, hS', hc', fun b o e => ?_⟩
          have hb0 : b < s.heap.objs.size := Heap.lt_size e
          have hb1 : b ≠ s.heap.objs.size := Nat.ne_of_lt hb0
          have hb2 : b ≠ (s.heap.push { cls := .type "set", dict := none, data := .set #[] 0 (.fresh 0 0 (!w.params.followText "set-order")) }).objs.size := by
            rw [Heap.size_push]; exact Nat.ne_of_lt (Nat.lt_succ_of_lt hb0)
          exact hm.heap b o (by simp only [List.mem_cons, List.mem_singleton, List.not_mem_nil, or_false, not_or]; exact ⟨hb1, hb2⟩) (Heap.get?_push_of_some _ (Heap.get?_push_of_some _ e))

      · cases r₂ with
        | error e => exact hr₂
        | ok fl₂ =>
          cases fl₂ with
          | ret r =>
            obtain ⟨rfl, h', tk, c', rfl, hS', hc', hk'⟩ := hr₂
            repeat (any_goals (first | assumption | wp_step))
            exact h _ _ _ hS' hc' hk'
          | _ => exact hr₂.elim
    | _ => exact hr.elim

end
end L2

set_option Elab.async false
set_option linter.all false
set_option maxRecDepth 100000
set_option maxHeartbeats 4000000
/-! set(a list of texts). -/
namespace L2
open PySem PySem.Spec PyProof.Rows
def keyOfS (e : Int × Value) : Str := match e.2 with | .str k _ => k | _ => ⟨#[]⟩
def GoodS (P : Program) (w : World) (e : Int × Value) : Prop := ∃ k tk, e.2 = Value.str k tk ∧ e.1 = (strKind P w).hash k
def SetRS (P : Program) (w : World) (h : Heap) (a : Addr) (S : Str → Bool) (n : Nat) : Prop :=
  ∃ o es ep t, h.get? a = some o ∧ o.ExactSet ∧ o.data = .set es ep t ∧ (∀ e ∈ es.toList, GoodS P w e) ∧ (es.toList.map keyOfS).Nodup ∧ (∀ k, S k = true ↔ k ∈ es.toList.map keyOfS) ∧
    es.size < scanBound ∧ t.fits es.size = true ∧ es.size = n ∧ Ris t.place.toList ∧ (w.params.followText "set-order" = true ∨ t.led = true)
section
variable {P : Program} {w : World} {h h' : Heap} {a : Addr} {S : Str → Bool} {n : Nat}

theorem SetRS.at (R : SetRS P w h a S n) (k : ∀ o, h.get? a = some o → h'.get? a = some o) : SetRS P w h' a S n := by
  obtain ⟨o, es, ep, t, ho, r⟩ := R
  exact ⟨o, es, ep, t, k o ho, r⟩
theorem SetRS.lt (R : SetRS P w h a S n) : a < h.objs.size := by
  obtain ⟨o, es, ep, t, ho, r⟩ := R
  exact Heap.lt_size ho
theorem SetRS.congr {S' : Str → Bool} (R : SetRS P w h a S n) (e : ∀ k, S' k = S k) : SetRS P w h a S' n := by
  have q : S' = S := funext e
  rw [q]; exact R
theorem goodS_elems {l : List (Int × Value)} (g : ∀ e ∈ l, GoodS P w e) : ElemsOf (strKind P w) l := fun e he => by
  obtain ⟨k, tk, h1, h2⟩ := g e he
  exact ⟨⟨k, by rw [h1]; exact strKind_is P w k tk, h2⟩, by rw [h1] <;> rfl⟩
theorem goodS_is {e : Int × Value} (g : GoodS P w e) (k : Str) : (strKind P w).is k e.2 = true ↔ keyOfS e = k := by
  obtain ⟨k0, tk, h1, _⟩ := g
  unfold keyOfS
  rw [h1]
  show ((k0 == k) = true) ↔ k0 = k
  exact beq_iff_eq
theorem goodS_mem {l : List (Int × Value)} (g : ∀ e ∈ l, GoodS P w e) (k : Str) : k ∈ l.map keyOfS ↔ ∃ e ∈ l, (strKind P w).is k e.2 = true := by
  rw [List.mem_map]
  constructor
  · rintro ⟨e, he, q⟩
    exact ⟨e, he, (goodS_is (g e he) k).2 q⟩
  · rintro ⟨e, he, q⟩
    exact ⟨e, he, (goodS_is (g e he) k).1 q⟩
end
section
variable {P : Program} {w : World} {A : Around} {E : Value → Shared → Prop} {s : Shared} {a : Addr} {S : Str → Bool} {n : Nat}
theorem setRS_add_tail {g : Bool → Sem Unit} (hg : ∀ (b : Bool) (s₁ : Shared) (Q' : Unit → Shared → Prop), Q' () s₁ → wpAny (model P w) A (g b) Q' E s₁)
    {o : Obj} {es : Array (Int × Value)} {ep : Nat} {t : SetTable} (ho : s.heap.get? a = some o) (hex : o.ExactSet) (hd : o.data = .set es ep t)
    {es1 : Array (Int × Value)} {t2 : SetTable} {S' : Str → Bool} (g1 : ∀ e ∈ es1.toList, GoodS P w e) (nd1 : (es1.toList.map keyOfS).Nodup) (m1 : ∀ k, S' k = true ↔ k ∈ es1.toList.map keyOfS)
    (hb1 : es1.size < scanBound) (hf2 : t2.fits es1.size = true) (hr : Ris t2.place.toList) (hl : w.params.followText "set-order" = true ∨ t2.led = true) {wasDummy : Bool} {R : Option Bool → Shared → Prop}
    (hR : ∀ h', Heap.SameBut a s.heap h' → SetRS P w h' a S' es1.size → R (some true) { s with heap := h' }) :
    wpAny (model P w) A (do
        storeSet a es1 t2
        if (!wasDummy && t2.tooFull) = true then do
            g (relayAll t2 es1 (SetTable.grown es1.size)).2.2
            storeSet a (relayAll t2 es1 (SetTable.grown es1.size)).1 (relayAll t2 es1 (SetTable.grown es1.size)).2.1
            pure (some true)
          else pure (some true)) R E s := by
  refine wpAny_bind (wpAny_storeSet_of ho hd ?_ (fits_of_scanBound hb1))
  have ho1 := store_at (es' := es1) (t' := t2) ho hd
  have sb1 := Heap.SameBut.update s.heap a (Obj.putSet es1 t2)
  split
  · have pm := relayAll_perm t2 es1 (SetTable.grown es1.size)
    have hf3 := relayAll_fits t2 es1 (SetTable.grown es1.size)
    have hr3 := relayAll_ris t2 es1 (SetTable.grown es1.size)
    have hl3 := relayAll_led t2 es1 (SetTable.grown es1.size)
    generalize relayAll t2 es1 (SetTable.grown es1.size) = Z at pm hf3 hr3 hl3 ⊢
    obtain ⟨es2, t3, gave⟩ := Z
    dsimp only at pm hf3 hr3 hl3 ⊢
    have hsz : es2.size = es1.size := by rw [← Array.length_toList, pm.length_eq, Array.length_toList]
    have hb2 : es2.size < scanBound := by rw [hsz]; exact hb1
    refine wpAny_bind (hg _ _ _ ?_)
    refine wpAny_bind (wpAny_storeSet_of ho1 rfl ?_ (fits_of_scanBound hb2))
    have ho2 := store_at (es' := es2) (t' := t3) ho1 rfl
    refine wpAny_pure (hR _ (sb1.trans (Heap.SameBut.update _ a _)) ?_)
    exact ⟨_, es2, _, t3, ho2, hex, rfl, fun e he => g1 e (pm.mem_iff.mp he), (pm.map keyOfS).nodup_iff.mpr nd1, fun k => (m1 k).trans (pm.map keyOfS).mem_iff.symm, hb2, hf3, hsz, hr3,
      hl.imp id fun z => by rw [hl3]; exact z⟩
  · exact wpAny_pure (hR _ sb1 ⟨_, es1, _, t2, ho1, hex, rfl, g1, nd1, m1, hb1, hf2, rfl, hr, hl⟩)

theorem setRS_add_hashed {k : Str} {tk : Tok} {Q : Bool → Shared → Prop} (R : SetRS P w s.heap a S n) (room : n + 1 < scanBound)
    (hQ : ∀ h', Heap.SameBut a s.heap h' → SetRS P w h' a (fun j => S j || decide (j = k)) (if S k = true then n else n + 1) → Q (!S k) { s with heap := h' }) :
    wpAny (model P w) A (setAddHashed a (.str k tk) ((strKind P w).hash k)) Q E s := by
  obtain ⟨o, es, ep, t, ho, hex, hd, g, nd, hm, hb, hf, hn, hr, hl⟩ := R
  have hkey : (strKind P w).is k (.str k tk) = true := strKind_is P w k tk
  have hsc : (Value.str k tk).scannable = true := rfl
  have hel : ElemsOf (strKind P w) es.toList := goodS_elems g
  unfold setAddHashed setAddHashedIn
  refine wpAny_holding (wpAny_bind (wpAny_setState_of ho hd hf ?_))
  dsimp only
  rw [byScan_of hsc hb hel]
  simp only [↓reduceIte]
  unfold setAddByScan
  refine wpAny_bind ?_
  refine wpAny_bind (wpAny_rule ?_)
  refine wpAny_bind (wpAny_setScan_of hkey ho hd hf hel ?_)
  cases hfi : List.findIdx? (fun e => (strKind P w).is k e.2) es.toList with
  | some j =>
    dsimp only
    obtain ⟨hj, pj, _⟩ := List.findIdx?_eq_some_iff_getElem.mp hfi
    have hSk : S k = true := (hm k).2 ((goodS_mem (P := P) (w := w) g k).2 ⟨es.toList[j], List.getElem_mem hj, pj⟩)
    refine wpAny_pure (wpAny_pure ?_)
    have q := hQ s.heap (Heap.SameBut.refl a s.heap) ⟨o, es, ep, t, ho, hex, hd, g, nd, fun i => by
      rw [Bool.or_eq_true, decide_eq_true_eq, ← hm i]
      exact ⟨fun z => z.elim id (fun e => e ▸ hSk), .inl⟩, hb, hf, by rw [if_pos hSk]; exact hn, hr, hl⟩
    rw [hSk] at q
    exact q
  | none =>
    dsimp only
    have hnk : k ∉ es.toList.map keyOfS := fun z => by
      obtain ⟨e, he, q⟩ := (goodS_mem (P := P) (w := w) g k).1 z
      have c := List.findIdx?_eq_none_iff.mp hfi e he
      rw [q] at c
      cases c
    have hSk : S k = false := by
      cases q : S k with
      | false => rfl
      | true => exact absurd ((hm k).1 q) hnk
    have hgw : ∀ (b : Bool) {s₁ : Shared} {Q' : Unit → Shared → Prop}, Q' () s₁ → wpAny (model P w) A (match b with | true => rule "set.scan.the-table-gave-way" | false => pure ()) Q' E s₁ :=
      fun b s₁ Q' q => by cases b <;> first | exact wpAny_pure q | exact wpAny_rule q
    have pm := layNew_perm t es ((strKind P w).hash k) (.str k tk)
    have hf1 := layNew_fits t es ((strKind P w).hash k) (.str k tk)
    have hr1 := layNew_ris t es ((strKind P w).hash k) (.str k tk) hr
    have hl1 := layNew_led t es ((strKind P w).hash k) (.str k tk)
    generalize layNew t es ((strKind P w).hash k) (.str k tk) = Z at pm hf1 hr1 hl1 ⊢
    obtain ⟨es1, t1, wasDummy, gave⟩ := Z
    dsimp only at pm hf1 hr1 hl1 ⊢
    rw [Array.toList_push] at pm
    have pc : es1.toList.Perm (((strKind P w).hash k, Value.str k tk) :: es.toList) := pm.trans (List.perm_append_singleton _ _)
    have pk : (es1.toList.map keyOfS).Perm (k :: es.toList.map keyOfS) := pc.map keyOfS
    have g1 : ∀ e ∈ es1.toList, GoodS P w e := fun e he => by
      rcases List.mem_cons.mp (pc.mem_iff.mp he) with z | z
      · rw [z]; exact ⟨k, tk, rfl, rfl⟩
      · exact g e z
    have nd1 : (es1.toList.map keyOfS).Nodup := pk.nodup_iff.mpr (List.nodup_cons.mpr ⟨hnk, nd⟩)
    have m1 : ∀ i, (S i || decide (i = k)) = true ↔ i ∈ es1.toList.map keyOfS := fun i => by
      rw [Bool.or_eq_true, decide_eq_true_eq, hm i, pk.mem_iff, List.mem_cons]
      exact Or.comm
    have hsz : es1.size = n + 1 := by rw [← Array.length_toList, pc.length_eq, List.length_cons, Array.length_toList, hn]
    have hb1 : es1.size < scanBound := by rw [hsz]; exact room
    have hled : w.params.followText "set-order" = true ∨ t1.led = true := hl.imp id fun z => by rw [hl1]; exact z
    have fin : ∀ h', Heap.SameBut a s.heap h' → SetRS P w h' a (fun j => S j || decide (j = k)) es1.size → Q true { s with heap := h' } := fun h' sb r => by
      have q := hQ h' sb
      rw [hSk] at q
      rw [hsz] at r
      exact q r
    refine wpAny_bind (hgw _ ?_)
    split
    · refine wpAny_bind ?_
      rw [hashByValue_scannable 8 hsc]
      refine wpAny_pure ?_
      refine setRS_add_tail ?_ ho hex hd g1 nd1 m1 hb1 ?_ ?_ ?_ ?_
      · intro b s₁ Q' q; cases b <;> first | exact wpAny_pure q | exact wpAny_rule q
      · first | (split <;> first | exact hf1 | exact SetTable.fits_plain_off hf1) | exact hf1
      · first | (split <;> exact hr1) | exact hr1
      · first | (split <;> exact hled) | exact hled
      · intro h' sb r; dsimp only; exact wpAny_pure (fin h' sb r)
    · refine wpAny_bind (wpAny_pure ?_)
      simp only [↓reduceIte]
      refine setRS_add_tail ?_ ho hex hd g1 nd1 m1 hb1 hf1 hr1 hled ?_
      · intro b s₁ Q' q; cases b <;> first | exact wpAny_pure q | exact wpAny_rule q
      · intro h' sb r; dsimp only; exact wpAny_pure (fin h' sb r)

end
theorem setRS_new_at {P : Program} {w : World} {h : Heap} {a : Addr} {ns : List Str} (ho : h.get? a = some { cls := .type "set", dict := none, data := .set #[] 0 (.fresh 0 0 (!w.params.followText "set-order")) }) : SetRS P w h a (fun j => decide (j ∈ ns.take 0)) 0 :=
  ⟨_, #[], 0, _, ho, ⟨rfl, rfl, rfl⟩, rfl, (fun e he => by simp at he), (by simp), (fun k => by simp), (by decide), (by rfl), rfl, List.Pairwise.nil, by
    show _ ∨ (!w.params.followText "set-order") = true
    cases w.params.followText "set-order"
    · exact .inr rfl
    · exact .inl rfl⟩
section
variable {P : Program} {w : World} {A : Around} {E : Value → Shared → Prop} {s : Shared}
theorem set_update_strs {I : Addr} {fp wr : List Addr} {G : Array GenState → Array GenState → Prop} {n : Nat} {Pv : Nat → Value → Prop} {St : Nat → Shared → Prop} {R : Result → Shared → Prop}
    (W : WalksS P w A.in1 I fp wr G n Pv St) (S : Addr) (hSf : S ∉ fp) (ns : List Str) (hn : n = ns.length) (hb : ns.length + 1 < scanBound) (hval : ∀ i v, Pv i v → ∃ k t, ns[i]? = some k ∧ v = .str k t) :
    ∀ (k i : Nat) (s : Shared), n - i = k → i ≤ n → St i s → (∃ c, c ≤ i ∧ SetRS P w s.heap S (fun j => decide (j ∈ ns.take i)) c) →
      (∀ s' c, Moved (S :: wr) G s s' → c ≤ n → SetRS P w s'.heap S (fun j => decide (j ∈ ns)) c → R (.ok (.ret .none)) s') →
      codeAny (model P w) A (.builtin "set.update.loop" ⟨[.ref S, .ref I], []⟩) R s := by
  have hSw : S ∉ wr := fun h => hSf (W.sub _ h)
  have hsub : ∀ b ∈ wr, b ∈ S :: wr := fun b hb => List.mem_cons_of_mem _ hb
  intro k
  induction k with
  | zero =>
    intro i s hk' hi hst ⟨c, hc, hS⟩ hR
    have hin : i = n := by omega
    subst hin
    refine codeAny_builtin F.entry_set_update_loop ?_
    rw [Around.under_plainId F.plain_set_update_loop _]
    show wpAny _ A.in1 (pyNext (.ref I) >>= _) _ _ s
    refine wpAny_bind (W.done s _ _ hst fun s' hm => ?_)
    show wpAny _ A.in1 (ret Value.none) _ _ s'
    have e : ns.take i = ns := List.take_of_length_le (by omega)
    rw [e] at hS
    exact wpAny_pure (hR s' c (hm.mono hsub) hc (hS.at fun o e => hm.heap S o hSw e))
  | succ k ih =>
    intro i s hk' hi hst ⟨c, hc, hS⟩ hR
    have hlt : i < n := by omega
    refine codeAny_builtin F.entry_set_update_loop ?_
    rw [Around.under_plainId F.plain_set_update_loop _]
    show wpAny _ A.in1 (pyNext (.ref I) >>= _) _ _ s
    refine wpAny_bind (W.item i s _ _ hlt hst fun v s' hP hst' hm => ?_)
    obtain ⟨z, t, hz, rfl⟩ := hval i v hP
    have hS' : SetRS P w s'.heap S (fun j => decide (j ∈ ns.take i)) c := hS.at fun o e => hm.heap S o hSw e
    show wpAny _ A.in1 (holding [Value.str z t] (setAdd S (.str z t)) >>= _) _ _ s'
    refine wpAny_bind (wpAny_holding ?_)
    unfold setAdd
    refine wpAny_holding ?_
    refine wpAny_bind ((strKind P w).pyHash (k := z) (strKind_is _ _ _ _) ?_)
    refine setRS_add_hashed (s := { s' with toks := s'.toks + 1 }) hS' (by omega) fun h' hsb hS2 => ?_
    have hS3 : SetRS P w h' S (fun j => decide (j ∈ ns.take (i + 1))) (if decide (z ∈ ns.take i) = true then c else c + 1) := hS2.congr fun j => by
      rw [List.take_add_one, hz]
      simp [List.mem_append]
    have hc3 : (if decide (z ∈ ns.take i) = true then c else c + 1) ≤ i + 1 := by
      split <;> omega
    refine wpAny_pure ⟨plainId_quiet F.plain_set_update_loop _, ih (i + 1) _ (by omega) hlt (W.frame _ s' _ _ hst' (Nat.le_succ _) fun b hb o e => ?_) ⟨_, hc3, hS3⟩ fun s'' c2 hm'' hc'' hS'' => ?_⟩
    · rw [hsb.2 b (fun h : b = S => hSf (by rw [← h]; exact hb))]; exact e
    · refine hR s'' c2 (Moved.trans W.gtrans ((hm.mono hsub).then_heap (Nat.le_succ _) fun b o hb e => ?_) hm'') hc'' hS''
      rw [hsb.2 b (fun h : b = S => hb (by rw [h]; exact List.mem_cons_self))]; exact e

theorem strs_get : ∀ {us : List Value} {ns : List Str} {i : Nat} {v : Value}, StrsAre us ns → us[i]? = some v → ∃ k t, ns[i]? = some k ∧ v = .str k t
  | _, _, i, v, .nil, e => by simp at e
  | _, _, 0, v, .cons x t r, e => by
    simp at e
    subst e
    exact ⟨_, _, rfl, rfl⟩
  | _, _, i + 1, v, .cons x t r, e => by
    obtain ⟨k, t, h1, h2⟩ := strs_get (i := i) (v := v) r (by simpa using e)
    exact ⟨k, t, by simpa using h1, h2⟩
set_option maxRecDepth 100000 in
set_option maxHeartbeats 3200000 in
theorem call_set_lstS {l : Addr} {items : Array Value} (ns : List Str) {Q : Value → Shared → Prop} (hh : A.handled = none) (hl : s.heap.IsList l items) (hit : StrsAre items.toList ns) (hb : ns.length + 1 < scanBound)
    (h : ∀ (h' : Heap) (tk c : Nat), SetRS P w h' s.heap.objs.size (fun j => decide (j ∈ ns)) c → c ≤ ns.length → (∀ b o, s.heap.get? b = some o → h'.get? b = some o) → Q (.ref s.heap.objs.size) { s with heap := h', toks := tk }) :
    wpAny (model P w) A (call (.type "set") [.ref l]) Q E s := by
  have hisz : items.size = ns.length := by
    have q := hit.length
    rw [Array.length_toList] at q
    exact q
  obtain ⟨c, tl, hmro⟩ := F.called_set.mro
  have hmade := F.called_set.made
  have hsub := F.called_set.sub
  refine wpAny_call (codeAny_of_tree ?_)
  show wpAny _ _ (callAny (.type "set") _) _ _ _
  refine wpAny_pure ⟨Code.quiet_builtin _ (by decide +kernel), codeAny_builtin F.entry_type_call ?_⟩
  rw [Around.under_plain (weight_type_call_type "set" [.ref l] []) rfl]
  have h1 := F.called_set.notType
  have h2 := F.called_set.canCreate
  have hct := F.typeCall_set_1 (.ref l)
  repeat (any_goals (first | assumption | wp_step))

  refine codeAny_mono (code_set_led1 (.ref l) (E := E) (Q₁ := fun obj s₁ => obj = .ref s.heap.objs.size ∧ s₁ = { s with heap := s.heap.push { cls := .type "set", dict := none, data := .set #[] 0 (.fresh 0 0 (!w.params.followText "set-order")) } }) ⟨rfl, rfl⟩) fun r s₁ hr => ?_
  cases r with
  | error e => exact hr
  | ok fl =>
    cases fl with
    | ret obj =>
      obtain ⟨rfl, rfl⟩ := hr
      have hS : (s.heap.push { cls := .type "set", dict := none, data := .set #[] 0 (.fresh 0 0 (!w.params.followText "set-order")) }).get? s.heap.objs.size = some { cls := .type "set", dict := none, data := .set #[] 0 (.fresh 0 0 (!w.params.followText "set-order")) } := Heap.get?_push_size _ rfl
      have hT : Shared.TypeIs { s with heap := s.heap.push { cls := .type "set", dict := none, data := .set #[] 0 (.fresh 0 0 (!w.params.followText "set-order")) } } (.ref s.heap.objs.size) "set" := ⟨_, hS, rfl⟩
      have hli := F.called_set.init.lookup
      have hbi := F.called_set.init.bind (.ref s.heap.objs.size)
      repeat (any_goals (first | assumption | wp_step))

      refine codeAny_mono (codeAny_call_builtin (R := wants (fun r s₂ => r = .none ∧ ∃ h' tk c, s₂ = { s with heap := h', toks := tk } ∧ SetRS P w h' s.heap.objs.size (fun j => decide (j ∈ ns)) c ∧ c ≤ ns.length ∧
          (∀ b o, s.heap.get? b = some o → h'.get? b = some o)) E) F.called_set.init.plain F.entry_set_init (check_set_init_1 hT ?_)) fun r₂ s₂ hr₂ => ?_
      · obtain ⟨ol, hol, hcl, nl, hdl⟩ := hl
        obtain ⟨ocls, odict, odata, oslots⟩ := ol
        simp only at hcl hdl
        subst hcl; subst hdl
        have hol' : (s.heap.push { cls := .type "set", dict := none, data := .set #[] 0 (.fresh 0 0 (!w.params.followText "set-order")) }).get? l = some { cls := .type "list", dict := odict, data := .seq items nl, slots := oslots } := Heap.get?_push_of_some _ hol
        have hsls := F.sub_list_set
        have hslf := F.sub_list_frozenset
        have hne : (Value.type "list" == Value.type "dict") = false := by decide
        have hl1 : (s.heap.push { cls := .type "set", dict := none, data := .set #[] 0 (.fresh 0 0 (!w.params.followText "set-order")) }).IsList l items := ⟨_, hol', rfl, nl, rfl⟩
        unfold Builtin.«set.__init__» noKeywords Builtin.Frozenset.updateFrom
        generalize hPI : pyIter = PI
        wp_walk
        subst hPI

        refine wpAny_pyIter_list hl1 ?_
        refine wpAny_bind (wpAny_runValue ?_)
        have hlS : l < s.heap.objs.size := Heap.lt_size hol
        have hh3 : A.in1.in1.in1.handled = none := by simp [hh]
        have hz1 : (s.heap.push { cls := .type "set", dict := none, data := .set #[] 0 (.fresh 0 0 (!w.params.followText "set-order")) }).objs.size = s.heap.objs.size + 1 := Heap.size_push ..
        have hneI : l ≠ (s.heap.push { cls := .type "set", dict := none, data := .set #[] 0 (.fresh 0 0 (!w.params.followText "set-order")) }).objs.size := by
          rw [Heap.size_push]; exact Nat.ne_of_lt (Nat.lt_succ_of_lt hlS)
        have hSf : s.heap.objs.size ∉ [(s.heap.push { cls := .type "set", dict := none, data := .set #[] 0 (.fresh 0 0 (!w.params.followText "set-order")) }).objs.size, l] := by
          rw [Heap.size_push]; simp only [List.mem_cons, List.mem_singleton, List.not_mem_nil, or_false, not_or]
          exact ⟨Nat.ne_of_lt (Nat.lt_succ_self _), Nat.ne_of_gt hlS⟩
        have hval : ∀ (i : Nat) (v : Value), items[i]? = some v → ∃ k t, ns[i]? = some k ∧ v = .str k t := fun i v hv => by
          exact strs_get hit (by rw [Array.getElem?_toList]; exact hv)
        refine set_update_strs ((Walks.list hh3 _ l hneI items).toS) s.heap.objs.size
          hSf ns hisz hb hval (items.size - 0) 0 _ (by omega) (Nat.zero_le _)
          ⟨⟨_, Heap.get?_push_size _ rfl, rfl, rfl⟩, (hl1.push _)⟩ ?hS0 ?hR
        case hS0 =>
          have hget : ((s.heap.push { cls := .type "set", dict := none, data := .set #[] 0 (.fresh 0 0 (!w.params.followText "set-order")) }).push { cls := .type "list_iterator", data := .fields #[.ref l, .int 0 0] }).get? s.heap.objs.size
              = some { cls := .type "set", dict := none, data := .set #[] 0 (.fresh 0 0 (!w.params.followText "set-order")) } := Heap.get?_push_of_some _ hS
          exact ⟨0, Nat.le_refl 0, setRS_new_at hget⟩
        case hR =>
          intro s' c' hm hc' hS'
          obtain ⟨h', g2, d', tk', os'⟩ := s'
          have eg : g2 = s.gens := hm.gens
          have ed : d' = s.drawn := hm.drawn
          have eo : os' = s.os := hm.os
          subst eg; subst ed; subst eo
          show wpAny _ _ _ _ _ _
          refine wpAny_pure ?_
          show wpAny _ _ (ret Value.none) _ _ _
          rw [hisz] at hc'
          refine wpAny_pure ⟨rfl, h', tk', c', rfl, hS', hc', fun b o e => ?_⟩
          have hb0 : b < s.heap.objs.size := Heap.lt_size e
          have hb1 : b ≠ s.heap.objs.size := Nat.ne_of_lt hb0
          have hb2 : b ≠ (s.heap.push { cls := .type "set", dict := none, data := .set #[] 0 (.fresh 0 0 (!w.params.followText "set-order")) }).objs.size := by
            rw [Heap.size_push]; exact Nat.ne_of_lt (Nat.lt_succ_of_lt hb0)
          exact hm.heap b o (by simp only [List.mem_cons, List.mem_singleton, List.not_mem_nil, or_false, not_or]; exact ⟨hb1, hb2⟩) (Heap.get?_push_of_some _ (Heap.get?_push_of_some _ e))

      · cases r₂ with
        | error e => exact hr₂
        | ok fl₂ =>
          cases fl₂ with
          | ret r =>
            obtain ⟨rfl, h', tk, c', rfl, hS', hc', hk'⟩ := hr₂
            repeat (any_goals (first | assumption | wp_step))
            exact h _ _ _ hS' hc' hk'
          | _ => exact hr₂.elim
    | _ => exact hr.elim

end
end L2

set_option Elab.async false
set_option linter.all false
set_option maxRecDepth 100000
set_option maxHeartbeats 4000000
/-! set(xs), sorted(set(xs)), xs a list of ints or of texts. -/
namespace L2
open PySem PySem.Spec PyProof.Rows PySem.KX
section
variable {P : Program} {w : World} {A : Around} {E : Value → Shared → Prop} {s : Shared} {a : Addr}
def txtOf : Value → Str
  | .str x _ => x
  | _ => ⟨#[]⟩
theorem strs_all : ∀ l : List Value, (∀ v ∈ l, ∃ k tk, v = Value.str k tk) → StrsAre l (l.map txtOf)
  | [], _ => .nil
  | v :: l, h => by
    obtain ⟨k, tk, rfl⟩ := h v List.mem_cons_self
    exact .cons k tk (strs_all l fun u hu => h u (List.mem_cons_of_mem _ hu))
theorem sorted_setS {S : Str → Bool} {n : Nat} {Q : Value → Shared → Prop} (R : SetRS P w s.heap a S n) (hh : A.handled = none) (h64 : n < 64)
    (hQ : ∀ s' p (out : List Value) (c : Nat) (ys : List Str), (∀ b o, s.heap.get? b = some o → s'.heap.get? b = some o) → s'.gens = s.gens → s'.os = s.os → s.heap.objs.size ≤ p →
      s'.heap.get? p = some (seqObj "list" out.toArray c) → StrsAre out ys → ys.Nodup → sortedS ys = true → (∀ k, k ∈ ys ↔ S k = true) → ys.length = n → Q (.ref p) s') :
    wpAny (model P w) A (call (.builtin "sorted") [.ref a]) Q E s := by
  obtain ⟨o, es, ep, t, ho, hex, hd, g, nd, hm, hb, hf, hn, hr, hl⟩ := R
  refine Calls.call_function_entry kind_sorted plain_sorted entry_sorted (args_sorted1 _) ?_
  unfold Builtin.«sorted»
  refine wpAny_bind (m := checkCount "sorted" 1 1 _) (wpAny_pure ?_)
  refine wpAny_bind (collect_set (A := A.in1) hh ⟨o, ho, hex.1, hd⟩ hf hb hr hl fun s1 vs k1 hz g1 o1 pm => ?_)
  have hvl : vs.length = n := by rw [pm.length_eq, List.length_map, Array.length_toList]; exact hn
  have hS : StrsAre vs (vs.map txtOf) := strs_all vs fun v hv => by
    obtain ⟨e, he, q⟩ := List.mem_map.mp (pm.mem_iff.mp hv)
    obtain ⟨k, tk, h1, _⟩ := g e he
    exact ⟨k, tk, by rw [← q]; exact h1⟩
  have pk : (vs.map txtOf).Perm (es.toList.map keyOfS) := by
    have q := pm.map txtOf
    rw [List.map_map] at q
    exact q
  refine wpAny_bind (wpAny_newList ?_ (by rw [hvl, sizeLine_eq]; omega))
  have hoL : (s1.heap.push (seqObj "list" vs.toArray 0)).get? s1.heap.objs.size = some (seqObj "list" vs.toArray 0) := Heap.get?_push_size _ rfl
  refine wpAny_bind (wpAny_holding (wpAny_call_entry slot_list_sort ⟨_, hoL, rfl⟩ entry_list_sort
    (list_sort_treeK strKind_oneLt hoL hS.keysOf (fun v₁ v₂ rest e => keyKind_strs (by rw [← e]; exact hS)) (by rw [hvl]; exact h64) fun st' hp hs => ⟨_, rfl, ?_⟩) (args_list_sort _)))
  obtain ⟨ys, y1, y2, y3⟩ := sorted_out_str hS hp hs
  obtain ⟨c, hc⟩ := sortedHeap_at (vs := vs) (out := (arrOf st').map (·.2)) hoL
  have pn : ys.Perm (es.toList.map keyOfS) := y2.trans pk
  refine wpAny_pure ⟨_, rfl, hQ _ s1.heap.objs.size ((arrOf st').map (·.2)).toList c ys (fun b u e => ?_) g1 o1 hz (by rw [Array.toArray_toList]; exact hc) y1 (pn.nodup_iff.mpr nd) y3 (fun k => by rw [pn.mem_iff, ← hm k]) ?_⟩
  · have q := k1 b u e
    have hlt := Heap.lt_size q
    show (sortedHeap (s1.heap.push (seqObj "list" vs.toArray 0)) s1.heap.objs.size vs ((arrOf st').map (·.2))).get? b = some u
    rw [sortedHeap_old (Nat.ne_of_lt hlt) (by rw [size_push']; exact Nat.lt_succ_of_lt hlt)]
    exact Heap.get?_push_of_some _ q
  · rw [pn.length_eq, List.length_map, Array.length_toList]; exact hn
end
/-- the set of texts at a -/
def SetSO (P : Program) (w : World) (a : Addr) (S : Str → Bool) (n : Nat) : HO := .ext fun h => SetRS P w h a S n
section
variable {X : Cx}
theorem setSO_new {w : World} {P : Program} {H : Hp} {h : Heap} {a : Addr} {S : Str → Bool} {n : Nat} (R : SetRS P w h a S n) : ObjOk P w H h a (SetSO P w a S n) := by
  have ⟨o, _, _, _, ho, _⟩ := R
  exact ⟨R, ⟨o, ho⟩, fun h1 h2 p k => SetRS.at p k⟩
/-- set(l), l a list of ints -/
def rSetLI (K : PySem.W.Frag) (w : World) : List V → Hp → VK → Prop := fun xs H Q => ∃ (t : Addr) (ns : List Int), xs = [.ref t] ∧ SqL K H t (ns.map V.int) ∧ ns.length ≤ 60 ∧ ∀ (p : Addr) (c : Nat) (H' : Hp), Same H H' → H p = none → H' p = some (SetO w p (fun j => decide (j ∈ ns)) c) → c ≤ ns.length → Q (.ref p) H'
theorem call_setLI (hc : X.calm = true) : CallR X (.type "set") (rSetLI X.K X.w) := by
  intro pins s σ H xs us Q I r h
  obtain ⟨t, ns, rfl, ht, hn, q⟩ := h
  rw [Vals.ref1 r]
  obtain ⟨its, rv, pl, _⟩ := I.list ht
  have hi := ints_of_vals rv
  refine call_set_lstI ns (I.ok.hd hc) pl.isList (by simpa using hi) (by have : scanBound = scanBound := rfl; show ns.length + 1 < scanBound; first | (unfold scanBound; omega) | omega) fun h' tk c R hcn k => ?_
  have hf : H s.heap.objs.size = none := I.hok.fresh (Nat.le_refl _)
  exact ⟨.ref s.heap.objs.size, upd H s.heap.objs.size (SetO X.w s.heap.objs.size (fun j => decide (j ∈ ns)) c), I.laid (t' := tk) k (Nat.le_refl _) (setO_new R), rfl, q _ c _ ((Same.refl _).new hf) hf upd_same hcn⟩
/-- set(l), l a list of texts -/
def rSetLS (K : PySem.W.Frag) (P : Program) (w : World) : List V → Hp → VK → Prop := fun xs H Q => ∃ (t : Addr) (ns : List Str), xs = [.ref t] ∧ SqL K H t (ns.map V.str) ∧ ns.length ≤ 60 ∧ ∀ (p : Addr) (c : Nat) (H' : Hp), Same H H' → H p = none → H' p = some (SetSO P w p (fun j => decide (j ∈ ns)) c) → c ≤ ns.length → Q (.ref p) H'
theorem call_setLS (hc : X.calm = true) : CallR X (.type "set") (rSetLS X.K X.prog X.w) := by
  intro pins s σ H xs us Q I r h
  obtain ⟨t, ns, rfl, ht, hn, q⟩ := h
  rw [Vals.ref1 r]
  obtain ⟨its, rv, pl, _⟩ := I.list ht
  have hi := rv.strs
  refine call_set_lstS ns (I.ok.hd hc) pl.isList (by simpa using hi) (by have : scanBound = scanBound := rfl; show ns.length + 1 < scanBound; first | (unfold scanBound; omega) | omega) fun h' tk c R hcn k => ?_
  have hf : H s.heap.objs.size = none := I.hok.fresh (Nat.le_refl _)
  exact ⟨.ref s.heap.objs.size, upd H s.heap.objs.size (SetSO X.prog X.w s.heap.objs.size (fun j => decide (j ∈ ns)) c), I.laid (t' := tk) k (Nat.le_refl _) (setSO_new R), rfl, q _ c _ ((Same.refl _).new hf) hf upd_same hcn⟩
/-- sorted(S), S a set of texts -/
def rSortLS (P : Program) (w : World) : List V → Hp → VK → Prop := fun xs H Q => ∃ (a : Addr) (S : Str → Bool) (n : Nat), xs = [.ref a] ∧ H a = some (SetSO P w a S n) ∧ n < 64 ∧
  ∀ (ys : List Str) (p : Addr) (H' : Hp), ys.Nodup → sortedS ys = true → (∀ k : Str, k ∈ ys ↔ S k = true) → ys.length = n → Same H H' → H p = none → H' p = some (.lst (ys.map V.str)) → Q (.ref p) H'
theorem call_sortLS (hc : X.calm = true) : CallR X (.builtin "sorted") (rSortLS X.prog X.w) := by
  intro pins s σ H xs us Q I r h
  obtain ⟨a, S, n, rfl, ha, hn, q⟩ := h
  rw [Vals.ref1 r]
  refine sorted_setS (I.hok a _ ha).1 (I.ok.hd hc) hn fun s' p out c ys k g o hz ho h1 h2 h3 h4 h5 => ?_
  have hf : H p = none := I.hok.fresh hz
  have hlen : (ys.map V.str).length ≤ sizeLine := by rw [List.length_map, h5, sizeLine_eq]; omega
  have J : Inv X pins σ (upd H p (.lst (ys.map V.str))) { s with heap := s'.heap, gens := s'.gens, drawn := s'.drawn, toks := s'.toks } :=
    I.call (ch := []) (Un.laid k hz hf) (I.hok.laid k hz ⟨hlen, out, c, vals_of_strs h1, ho⟩) (by rw [g]; exact I.bare) (fun _ z => nomatch z)
  have e : s' = { s with heap := s'.heap, gens := s'.gens, drawn := s'.drawn, toks := s'.toks } := by
    cases s'
    cases s
    cases o
    rfl
  rw [e]
  exact ⟨.ref p, _, J, rfl, q ys p _ h2 h3 h4 h5 ((Same.refl _).new hf) hf upd_same⟩
end
end L2

set_option Elab.async false
set_option linter.all false
set_option maxRecDepth 100000
set_option maxHeartbeats 4000000
/-! Rows that ascend: the mathematics. -/
namespace L2
open PySem PySem.Spec PyProof.Rows PySem.KX
theorem asc_eq {α : Type} {R : α → α → Prop} (irr : ∀ a, ¬ R a a) (tr : ∀ a b c, R a b → R b c → R a c) : ∀ {as bs : List α}, as.Pairwise R → bs.Pairwise R → (∀ k, k ∈ as ↔ k ∈ bs) → as = bs
  | [], [], _, _, _ => rfl
  | [], b :: bs, _, _, h => absurd ((h b).mpr List.mem_cons_self) (by simp)
  | a :: as, [], _, _, h => absurd ((h a).mp List.mem_cons_self) (by simp)
  | a :: as, b :: bs, h1, h2, h => by
    obtain ⟨a1, a2⟩ := List.pairwise_cons.mp h1
    obtain ⟨b1, b2⟩ := List.pairwise_cons.mp h2
    have e : a = b := by
      rcases List.mem_cons.mp ((h a).mp List.mem_cons_self) with z | z
      · exact z
      · rcases List.mem_cons.mp ((h b).mpr List.mem_cons_self) with y | y
        · exact y.symm
        · exact absurd (tr _ _ _ (b1 a z) (a1 b y)) (irr _)
    subst e
    congr 1
    refine asc_eq irr tr a2 b2 fun k => ⟨fun hk => ?_, fun hk => ?_⟩
    · rcases List.mem_cons.mp ((h k).mp (List.mem_cons_of_mem _ hk)) with z | z
      · exact absurd (z ▸ a1 k hk) (irr _)
      · exact z
    · rcases List.mem_cons.mp ((h k).mpr (List.mem_cons_of_mem _ hk)) with z | z
      · exact absurd (z ▸ b1 k hk) (irr _)
      · exact z
theorem ascD_cons {d e : PyData} {r : List PyData} : ascD (d :: e :: r) = (ltD d e && ascD (e :: r)) := rfl
theorem asc_pair {α : Type} {R : α → α → Prop} {f : α → PyData} (h : ∀ a b, ltD (f a) (f b) = true ↔ R a b) (tr : ∀ a b c, R a b → R b c → R a c) : ∀ l : List α, ascD (l.map f) = true ↔ l.Pairwise R
  | [] => by simp [ascD]
  | [a] => by simp [ascD]
  | a :: b :: r => by
    have ih := asc_pair h tr (b :: r)
    rw [List.map_cons, List.map_cons, ascD_cons, Bool.and_eq_true, h, ← List.map_cons, ih]
    constructor
    · rintro ⟨h1, h2⟩
      refine List.pairwise_cons.mpr ⟨fun x hx => ?_, h2⟩
      rcases List.mem_cons.mp hx with z | z
      · rw [z]; exact h1
      · exact tr _ _ _ h1 ((List.pairwise_cons.mp h2).1 x z)
    · intro h1
      obtain ⟨h2, h3⟩ := List.pairwise_cons.mp h1
      exact ⟨h2 b List.mem_cons_self, h3⟩
abbrev ltT (x y : Str) : Prop := x.cps.toList < y.cps.toList
theorem ltT_irr (x : Str) : ¬ ltT x x := List.lt_irrefl _
theorem ltT_tr (x y z : Str) (h : ltT x y) (k : ltT y z) : ltT x z := List.lt_trans h k
theorem asc_ints (ns : List Int) : ascD (ns.map PyData.int) = true ↔ ns.Pairwise (· < ·) := asc_pair (f := PyData.int) (fun a b => by show decide (a < b) = true ↔ a < b; simp) (fun a b c h k => by omega) ns
theorem asc_strs (xs : List Str) : ascD (xs.map PyData.str) = true ↔ xs.Pairwise ltT := asc_pair (f := PyData.str) (fun a b => by show decide (ltT a b) = true ↔ ltT a b; simp) ltT_tr xs
theorem eqvAll_map {α : Type} {f : α → PyData} (inj : ∀ a b, PyData.eqv (f a) (f b) = true ↔ a = b) : ∀ xs ys : List α, PyData.eqvAll (xs.map f) (ys.map f) = true ↔ xs = ys
  | [], [] => by simp [PyData.eqvAll]
  | [], y :: ys => by simp [PyData.eqvAll]
  | x :: xs, [] => by simp [PyData.eqvAll]
  | x :: xs, y :: ys => by
    simp only [List.map_cons, PyData.eqvAll, Bool.and_eq_true, inj, eqvAll_map inj xs ys, List.cons.injEq]
theorem eqv_ints {ns ms : List Int} : PyData.eqv (.list (ns.map .int)) (.list (ms.map .int)) = true ↔ ns = ms := by
  show PyData.eqvAll _ _ = true ↔ _
  exact eqvAll_map (fun a b => by show (a == b) = true ↔ a = b; simp) ns ms
theorem eqv_strs {ns ms : List Str} : PyData.eqv (.list (ns.map .str)) (.list (ms.map .str)) = true ↔ ns = ms := by
  show PyData.eqvAll _ _ = true ↔ _
  exact eqvAll_map (fun a b => by show (a == b) = true ↔ a = b; simp) ns ms
/-- equal to its own ascending row exactly if it ascends -/
theorem eqv_tidy {ns ms : List Int} (t : Tidy ns ms) : PyData.eqv (.list (ns.map .int)) (.list (ms.map .int)) = ascD (ns.map .int) := by
  refine Bool.eq_iff_iff.mpr ?_
  rw [eqv_ints, asc_ints]
  constructor
  · intro h
    rw [h]
    exact t.asc
  · intro h
    exact tidy_eq h t.asc fun k => (t.mem k).symm
theorem ltT_tri {x y : Str} (h : ¬ ltT y x) (n : x ≠ y) : ltT x y := by
  have h1 : x.cps.toList ≤ y.cps.toList := h
  rcases List.le_iff_lt_or_eq.mp h1 with z | z
  · exact z
  · exfalso
    apply n
    cases x
    cases y
    simp at z
    rw [z]
theorem rising_le : ∀ (p : Str) (ys : List Str), risingS p ys = true → ∀ y ∈ ys, ¬ ltT y p
  | p, [], _, y, hy => nomatch hy
  | p, x :: r, h, y, hy => by
    have h' : (!ltCps x.cps.toList p.cps.toList && risingS x r) = true := h
    rw [Bool.and_eq_true, ltCps_eq] at h'
    have hx : ¬ ltT x p := by
      have := h'.1
      simpa using this
    rcases List.mem_cons.mp hy with z | z
    · rw [z]; exact hx
    · have := rising_le x r h'.2 y z
      intro c
      by_cases e : x = y
      · exact hx (e ▸ c)
      · exact hx (ltT_tr _ _ _ (ltT_tri this e) c)
theorem sorted_pair : ∀ ys : List Str, sortedS ys = true → ys.Nodup → ys.Pairwise ltT
  | [], _, _ => List.Pairwise.nil
  | y :: r, h, nd => by
    obtain ⟨n1, n2⟩ := List.nodup_cons.mp nd
    have hr : sortedS r = true := by
      cases r with
      | nil => rfl
      | cons z t =>
        have h' : (!ltCps z.cps.toList y.cps.toList && risingS z t) = true := h
        rw [Bool.and_eq_true] at h'
        exact h'.2
    exact List.pairwise_cons.mpr ⟨fun z hz => ltT_tri (rising_le y r h z hz) fun e => n1 (e ▸ hz), sorted_pair r hr n2⟩
theorem eqv_sorted {xs ys : List Str} (h1 : sortedS ys = true) (h2 : ys.Nodup) (h3 : ∀ k, k ∈ ys ↔ k ∈ xs) : PyData.eqv (.list (xs.map .str)) (.list (ys.map .str)) = ascD (xs.map .str) := by
  refine Bool.eq_iff_iff.mpr ?_
  rw [eqv_strs, asc_strs]
  constructor
  · intro h
    rw [h]
    exact sorted_pair ys h1 h2
  · intro h
    exact asc_eq ltT_irr ltT_tr h (sorted_pair ys h1 h2) fun k => (h3 k).symm
/-- rows of at most 60, all the way down -/
def sm60 : PyData → Bool
  | .list xs => decide (xs.length ≤ 60) && sm60All xs
  | .tuple xs => decide (xs.length ≤ 60) && sm60All xs
  | _ => true
where sm60All : List PyData → Bool
  | [] => true
  | x :: xs => sm60 x && sm60All xs
theorem sm60_tup {ds : List PyData} (h : sm60 (.tuple ds) = true) : ds.length ≤ 60 ∧ ∀ d ∈ ds, sm60 d = true := by
  have h' : (decide (ds.length ≤ 60) && sm60.sm60All ds) = true := by simpa [sm60] using h
  rw [Bool.and_eq_true, decide_eq_true_eq] at h'
  refine ⟨h'.1, ?_⟩
  have := h'.2
  clear h h'
  induction ds with
  | nil => intro d hd; exact nomatch hd
  | cons x r ih =>
    have h2 : (sm60 x && sm60.sm60All r) = true := by simpa [sm60.sm60All] using this
    rw [Bool.and_eq_true] at h2
    intro d hd
    rcases List.mem_cons.mp hd with z | z
    · rw [z]; exact h2.1
    · exact ih h2.2 d z
end L2

set_option Elab.async false
set_option linter.all false
set_option maxRecDepth 100000
set_option maxHeartbeats 4000000
/-! tuple(x), list(x), told by what is new. -/
namespace L2
open PySem PySem.Spec PyProof.Rows PySem.KX
section
variable {X : Cx}
/-- tuple(l), l a list -/
def rTupLS (K : PySem.W.Frag) : List V → Hp → VK → Prop := fun vs H Q => ∃ (l : Addr) (ys : List V), vs = [.ref l] ∧ SqL K H l ys ∧ ∀ p H', Same H H' → H p = none → H' p = some (.tup ys) → Q (.ref p) H'
theorem call_tupLS : CallR X (.type "tuple") (rTupLS X.K) := call_tupleA.imp fun xs H Q ⟨l, ys, e, h1, k⟩ => by
  subst e
  exact .inl ⟨ys, h1, fun p n => k p _ ((Same.refl _).new n) n upd_same⟩
/-- list(x), x a list or a tuple -/
def rLstS (K : PySem.W.Frag) : List V → Hp → VK → Prop := fun vs H Q => ∃ (l : Addr) (ys : List V), vs = [.ref l] ∧ (SqL K H l ys ∨ SqT K H l ys) ∧ ∀ p H', Same H H' → H p = none → H' p = some (.lst ys) → Q (.ref p) H'
theorem call_lstS : CallR X (.type "list") (rLstS X.K) := call_listA.imp fun xs H Q ⟨l, ys, e, h1, k⟩ => by
  subst e
  exact ⟨ys, h1, fun p n => k p _ ((Same.refl _).new n) n upd_same⟩
end
end L2

set_option Elab.async false
set_option linter.all false
set_option maxRecDepth 100000
set_option maxHeartbeats 4000000
/-! Words drawn one after the other: the mathematics. -/
namespace L2
open PySem
theorem nodup_le {α : Type} [DecidableEq α] : ∀ {l m : List α}, l.Nodup → (∀ x ∈ l, x ∈ m) → l.length ≤ m.length
  | [], _, _, _ => Nat.zero_le _
  | a :: l, m, h, k => by
    obtain ⟨h1, h2⟩ := List.nodup_cons.mp h
    have ha : a ∈ m := k a List.mem_cons_self
    have := nodup_le (l := l) (m := m.erase a) h2 fun x hx => by
      have hne : x ≠ a := fun z => h1 (z ▸ hx)
      exact (List.mem_erase_of_ne hne).mpr (k x (List.mem_cons_of_mem _ hx))
    rw [List.length_erase_of_mem ha] at this
    have := List.length_pos_of_mem ha
    simp only [List.length_cons]
    omega
/-- the text of these codes -/
abbrev wT (l : List Nat) : Str := ⟨l.toArray⟩
theorem wT_inj {l m : List Nat} (h : wT l = wT m) : l = m := by
  have := congrArg (fun z : Str => z.cps.toList) h
  simpa using this
theorem wT_len (l : List Nat) : (wT l).length = l.length := by
  show l.toArray.size = _
  simp
theorem wT_eta (x : Str) : x = wT x.cps.toList := by
  cases x
  simp
theorem wT_app (l m : List Nat) : wT l ++ wT m = wT (l ++ m) := by
  show (⟨l.toArray ++ m.toArray⟩ : Str) = _
  simp
abbrev lowL (c : Nat) : Bool := decide (97 ≤ c) && decide (c ≤ 122)
theorem lowL_iff {c : Nat} : lowL c = true ↔ 97 ≤ c ∧ c ≤ 122 := by simp
/-- the letter that is j places on -/
def onC (c j : Nat) : Nat := 97 + (c - 97 + j) % 26
theorem onC_low (c j : Nat) : 97 ≤ onC c j ∧ onC c j ≤ 122 := by
  unfold onC
  have := Nat.mod_lt (c - 97 + j) (show 0 < 26 by decide)
  omega
theorem onC_zero {c : Nat} (h : 97 ≤ c ∧ c ≤ 122) : onC c 0 = c := by
  unfold onC
  rw [Nat.mod_eq_of_lt (by omega)]
  omega
theorem onC_succ (c j : Nat) : onC (onC c j) 1 = onC c (j + 1) := by
  unfold onC
  have h1 : 97 + (c - 97 + j) % 26 - 97 = (c - 97 + j) % 26 := by omega
  rw [h1, Nat.mod_add_mod]
  congr 1
theorem onC_inj {c i j : Nat} (hi : i < 26) (hj : j < 26) (h : onC c i = onC c j) : i = j := by
  unfold onC at h
  omega
/-- a word that is put on while it is taken: it is free, or all before it are taken -/
def TryW (fs : List Str) (c : Nat) (r : List Nat) (t : Nat) (d : Nat) : Prop := wT (d :: r) ∉ fs ∨ (d = onC c t ∧ ∀ j, j < t → wT (onC c j :: r) ∈ fs)
theorem TryW.start {fs : List Str} {c : Nat} {r : List Nat} (h : 97 ≤ c ∧ c ≤ 122) : TryW fs c r 0 c := .inr ⟨(onC_zero h).symm, fun j hj => absurd hj (Nat.not_lt_zero _)⟩
theorem TryW.free {fs : List Str} {c : Nat} {r : List Nat} {t d : Nat} (h : TryW fs c r t d) (n : wT (d :: r) ∉ fs) : TryW fs c r (t + 1) d := .inl n
theorem TryW.on {fs : List Str} {c : Nat} {r : List Nat} {t d : Nat} (h : TryW fs c r t d) (y : wT (d :: r) ∈ fs) : TryW fs c r (t + 1) (onC d 1) := by
  rcases h with h | ⟨rfl, h⟩
  · exact absurd y h
  · refine .inr ⟨onC_succ c t, fun j hj => ?_⟩
    by_cases e : j = t
    · subst e
      exact y
    · exact h j (by omega)
theorem TryW.done {fs : List Str} {c : Nat} {r : List Nat} {t d : Nat} (h : TryW fs c r t d) (h1 : fs.length < t) (h2 : t ≤ 26) : wT (d :: r) ∉ fs := by
  rcases h with h | ⟨_, h⟩
  · exact h
  · exfalso
    have hn : ((List.range t).map fun j => wT (onC c j :: r)).Nodup := by
      refine List.Pairwise.map _ ?_ (List.nodup_iff_pairwise_ne.mp List.nodup_range |>.imp_of_mem fun {a b} ha hb hab => ?_) (S := fun a b => a ≠ b) (R := fun a b => wT (onC c a :: r) ≠ wT (onC c b :: r))
      · intro a b h
        exact h
      · intro e
        have e2 := (List.cons.inj (wT_inj e)).1
        have a1 := List.mem_range.mp ha
        have b1 := List.mem_range.mp hb
        exact hab (onC_inj (by omega) (by omega) e2)
    have := nodup_le hn fun x hx => by
      obtain ⟨j, hj, rfl⟩ := List.mem_map.mp hx
      exact h j (List.mem_range.mp hj)
    simp at this
    omega
end L2

set_option Elab.async false
set_option linter.all false
set_option maxRecDepth 100000
set_option maxHeartbeats 4000000
namespace K02
open PySem L2 PySem.KX
def top (i : Nat) : Stmt := PySem.Challenge.pw_caseflow_k02_whole_defects_by_paths.main.body.getD i (.Pass ⟨0, 0, 0, 0⟩)
abbrev sis_integer : Stmt := top 2
theorem scis_integer : FnScope ["value"] ["value"] (defScope sis_integer) := ⟨rfl, rfl, rfl, by decide +kernel, rfl, by decide +kernel, by decide +kernel⟩
abbrev sis_integer_within : Stmt := top 3
theorem scis_integer_within : FnScope ["value", "least", "most"] ["value", "least", "most"] (defScope sis_integer_within) := ⟨rfl, rfl, rfl, by decide +kernel, rfl, by decide +kernel, by decide +kernel⟩
abbrev sis_name : Stmt := top 4
theorem scis_name : FnScope ["value", "letter"] ["value"] (defScope sis_name) := ⟨rfl, rfl, rfl, by decide +kernel, rfl, by decide +kernel, by decide +kernel⟩
abbrev sascends : Stmt := top 5
theorem scascends : FnScope ["values", "one", "other"] ["values"] (defScope sascends) := ⟨rfl, rfl, rfl, by decide +kernel, rfl, by decide +kernel, by decide +kernel⟩
structure TxtA (mg : Str → Option Value) : Prop where
  isinstance : mg "isinstance" = none
  int : mg "int" = none
  bool : mg "bool" = none
  str : mg "str" = none
  tuple : mg "tuple" = none
  len : mg "len" = none
  all : mg "all" = none
  zip : mg "zip" = none
  g_MAX_LETTERS : ∃ t, mg "MAX_LETTERS" = some (.int 8 t)
  g_MAX_PLACES : ∃ t, mg "MAX_PLACES" = some (.int 30 t)
  g_MAX_STEPS : ∃ t, mg "MAX_STEPS" = some (.int 40 t)
section
variable {P : Program} {w : World} {K : PySem.W.Frag} {mg : Str → Option Value} {base : Heap}
/-- a test of data that makes nothing -/
def spT (K : PySem.W.Frag) (p : PyData → Bool) : Sp := fun vs H Q _ => ∃ (v : V) (d : PyData), vs = [v] ∧ Wd K H v d ∧ Q (.bl (p d)) H
/-- a test of data that may make something -/
def spN (K : PySem.W.Frag) (p : PyData → Bool) : Sp := fun vs H Q _ => ∃ (v : V) (d : PyData), vs = [v] ∧ Wd K H v d ∧ ∀ H', Same H H' → Q (.bl (p d)) H'
def spWithin (K : PySem.W.Frag) : Sp := fun vs H Q _ => ∃ (v : V) (d : PyData) (lo hi : Int), vs = [v, .int lo, .int hi] ∧ Wd K H v d ∧ Q (.bl (intIn lo hi d)) H
theorem ok_is_integer {f : Addr} {fd : FuncData} (F : Fun K "is_integer" "is_integer" sis_integer f fd) (T : TxtA mg) : FnG P w K mg base CX0 1 f fd ["value"] (spT K isIntD) := by
  have nd := scis_integer.nd
  refine okG F scis_integer (fun vs H Q E h => ?_) (fun cdv A outer s H vs Q E hr h => ?_)
  · obtain ⟨_, _, rfl, _⟩ := h
    rfl
  · obtain ⟨v, d, rfl, hd, k⟩ := h
    refine ⟨_, (pss_one (ps_ret (pe_and (pe_callB call_isiA (by rfl) T.isinstance (by decide +kernel) (pa_cons (av 0) (pa_cons (pe_bltn (v := .ty "int") (u := .type "int") rfl T.int (by decide +kernel) rfl) pa_nil))) (pe_one (pe_not (pe_callB call_isiA (by rfl) T.isinstance (by decide +kernel) (pa_cons (av 0) (pa_cons (pe_bltn (v := .ty "bool") (u := .type "bool") rfl T.bool (by decide +kernel) rfl) pa_nil)))))))), ?_⟩
    refine ⟨_, _, _, _, _, rfl, .ty _, hd.dq.ty, kit_ty (kit_int d), _, rfl, ?_⟩
    cases d with
    | int i => exact ⟨_, _, _, _, _, rfl, .ty _, hd.dq.ty, kit_ty (kit_bool (.int i)), _, rfl, k⟩
    | bool b => exact ⟨_, _, _, _, _, rfl, .ty _, hd.dq.ty, kit_ty (kit_bool (.bool b)), _, rfl, k⟩
    | none => exact k
    | str x => exact k
    | list ds => exact k
    | tuple ds => exact k
    | dict kv => exact k
theorem ok_is_integer_within {f : Addr} {fd : FuncData} (F : Fun K "is_integer_within" "is_integer_within" sis_integer_within f fd) (Ois_integer : Own P w K mg base CX0 "is_integer" 1 ["value"] (spT K isIntD)) : FnG P w K mg base CX0 2 f fd ["value", "least", "most"] (spWithin K) := by
  have nd := scis_integer_within.nd
  refine okG F scis_integer_within (fun vs H Q E h => ?_) (fun cdv A outer s H vs Q E hr h => ?_)
  · obtain ⟨_, _, _, _, rfl, _⟩ := h
    rfl
  · obtain ⟨v, d, lo, hi, rfl, hd, k⟩ := h
    refine ⟨_, (pss_one (ps_ret (pe_and (pe_own Ois_integer hr (pa_cons (av 0) pa_nil) (by decide)) (pe_one (pe_chain op_leA op_leA (av 1) (av 0) (av 2)))))), ?_⟩
    refine ⟨v, d, rfl, hd, _, rfl, ?_⟩
    cases hd.dq with
    | int i =>
      refine ⟨_, rfl, ?_⟩
      have e : intIn lo hi (.int i) = (decide (lo ≤ i) && decide (i ≤ hi)) := rfl
      rw [e] at k
      refine ite2 (fun c => ?_) (fun c => ?_)
      · have c' : decide (lo ≤ i) = true := c
        rw [c'] at k
        exact k
      · have c' : decide (lo ≤ i) = false := Bool.eq_false_iff.mpr c
        rw [c'] at k
        exact k
    | non => exact k
    | bl b => exact k
    | str x => exact k
    | lst h1 h2 => exact k
    | tup h1 h2 => exact k
    | emp h1 => exact k
end
end K02

set_option Elab.async false
set_option linter.all false
set_option maxRecDepth 100000
set_option maxHeartbeats 4000000
namespace K02
open PySem L2 PySem.KX
def CmpD (ds : List PyData) : Prop := (∀ (i : Nat) (d : PyData), ds[i]? = some d → isIntD d = true) ∨ ∀ (i : Nat) (d : PyData), ds[i]? = some d → isStrB d = true
section
variable {P : Program} {w : World} {K : PySem.W.Frag} {mg : Str → Option Value} {base : Heap}
theorem ok_is_name {f : Addr} {fd : FuncData} (F : Fun K "is_name" "is_name" sis_name f fd) (T : TxtA mg) : FnG P w K mg base CX0 1 f fd ["value"] (spN K isNameD) := by
  have nd := scis_name.nd
  refine okG F scis_name (fun vs H Q E h => ?_) (fun cdv A outer s H vs Q E hr h => ?_)
  · obtain ⟨_, _, rfl, _⟩ := h
    rfl
  · obtain ⟨v, d, rfl, hd, k⟩ := h
    refine ⟨_, (pss_cons (ps_if (PW.pt (pw_or (pt_not (pt_valA (pe_callB call_isiA (by rfl) T.isinstance (by decide +kernel) (pa_cons (av 0) (pa_cons (pe_bltn (v := .ty "str") (u := .type "str") rfl T.str (by decide +kernel) rfl) pa_nil))))) (pw_or1 (pt_not (pt_chain op_leA op_leA pe_int (pe_callB call_lenA (by rfl) T.len PySem.boot_len (pa_cons (av 0) pa_nil)) (pe_gint T.g_MAX_LETTERS)))))) (pss_one (ps_ret pe_bl)) pss_nil)
      (pss_one (ps_ret (pe_callB (cr_all rfl) (by rfl) T.all (by decide +kernel) (pa_cons (pe_lc (own := [("letter", 1)]) (by rfl) nd (pi_str (av 0)) (blkOk_by (N := ["value", "letter"]) (sc := defScope sis_name) (by decide +kernel)) (fun _ _ _ _ _ => (pg_name (i := 1) nd rfl (Or.inl rfl))) (fun _ _ _ _ _ => pts_nil) (fun _ _ _ _ _ => PE.up (pe_chain op_le_str op_le_str pe_str (av 1) pe_str))) pa_nil))))), ?_⟩
    refine ⟨_, _, _, _, _, rfl, .ty _, hd.dq.ty, kit_ty (kit_str d), ?_⟩
    have no : isStrB d = false → isNameD d = false := fun e => by
      cases d <;> first | rfl | cases e
    cases hb : isStrB d with
    | false =>
      rw [no hb] at k
      refine (iteT (k _ (Same.refl _)) : if true = true then _ else _)
    | true =>
      refine iteF ?_
      cases hd.dq with
      | str x =>
        have hs : x.length ≤ 100000 := of_decide_eq_true hd.sm
        refine ⟨small_size (by omega), _, rfl, ?_⟩
        have e : isNameD (.str x) = ((decide (1 ≤ x.length) && decide (x.length ≤ 8)) && x.cps.toList.all lowC) := rfl
        rw [e] at k
        refine ite2 (fun c1 => ?_) (fun c1 => ?_)
        · have d1 : decide (1 ≤ x.length) = true := decide_eq_true (by have := of_decide_eq_true c1; omega)
          rw [d1] at k
          refine ⟨_, rfl, ?_⟩
          cases d2 : decide (x.length ≤ 8) with
          | false =>
            rw [d2] at k
            have c2 : decide ((x.length : Int) ≤ 8) = false := decide_eq_false (by have := of_decide_eq_false d2; omega)
            show (if (!decide ((x.length : Int) ≤ 8)) = true then _ else _)
            rw [c2]
            exact iteT (k _ (Same.refl _))
          | true =>
            rw [d2] at k
            have c2 : decide ((x.length : Int) ≤ 8) = true := decide_eq_true (by have := of_decide_eq_true d2; omega)
            show (if (!decide ((x.length : Int) ≤ 8)) = true then _ else _)
            rw [c2]
            refine iteF ⟨x, rfl, fun D hD => ?_⟩
            refine lc_itS walk_str (fun j u _ => ∃ c, x.cps[j]? = some c ∧ u = .bl (lowC c)) (fun _ _ _ _ _ h => h) hD (by have : x.cps.size = x.length := rfl; omega) (fun _ _ => True.intro) (fun j y H' H2 hj s5 hD5 ⟨e2, c, hc, ey⟩ => ?_) gName_mono (fun H' acc s6 hl la hacc => ?_)
            · subst e2
              subst ey
              refine ⟨rfl, _, _, rfl, rfl, _, rfl, ?_⟩
              have e3 : lowC c = (decide (97 ≤ c) && decide (c ≤ 122)) := rfl
              refine ite2 (fun c3 => ?_) (fun c3 => ?_)
              · have c3' : (!decide ((⟨#[c]⟩ : Str).cps.toList < ("a" : Str).cps.toList)) = true := c3
                rw [low_a] at c3'
                refine ⟨_, _, rfl, rfl, Same.refl _, c, hc, ?_⟩
                rw [e3, c3', low_z]
                rfl
              · have c3' : (!decide ((⟨#[c]⟩ : Str).cps.toList < ("a" : Str).cps.toList)) = false := Bool.eq_false_iff.mpr c3
                rw [low_a] at c3'
                refine ⟨Same.refl _, c, hc, ?_⟩
                rw [e3, c3']
                rfl
            · have ea : acc = (x.cps.toList.map lowC).map V.bl := acc_mapN (by simpa using la) fun j u hu => by
                obtain ⟨c, h1, h2⟩ := hacc j u hu
                exact ⟨c, by simpa using h1, h2⟩
              refine ⟨D, x.cps.toList.map lowC, rfl, SqL.of (by rw [← ea]; exact hl), ?_⟩
              rw [all_mapN]
              exact k _ s6
        · have d1 : decide (1 ≤ x.length) = false := decide_eq_false fun z => c1 (decide_eq_true (by omega))
          rw [d1] at k
          exact ⟨_, rfl, iteT (k _ (Same.refl _))⟩
      | _ => cases hb
end
end K02

set_option Elab.async false
set_option linter.all false
set_option maxRecDepth 100000
set_option maxHeartbeats 4000000
namespace K02
open PySem L2 PySem.KX
theorem asc_range (ds : List PyData) : ∀ {acc : List V}, acc.length = min ds.length ds.tail.length → (∀ (j : Nat) (u : V), acc[j]? = some u → ∃ d e, ds[j]? = some d ∧ ds.tail[j]? = some e ∧ u = .bl (ltD d e)) → acc = ((ds.zip ds.tail).map fun p => ltD p.1 p.2).map V.bl := fun {acc} hl h => by
  refine acc_mapN (by rw [List.length_zip]; exact hl) fun j u hu => ?_
  obtain ⟨d, e, h1, h2, h3⟩ := h j u hu
  exact ⟨(d, e), by rw [List.getElem?_zip_eq_some]; exact ⟨h1, h2⟩, h3⟩
section
variable {P : Program} {w : World} {K : PySem.W.Frag} {mg : Str → Option Value} {base : Heap}
def spAsc (K : PySem.W.Frag) : Sp := fun vs H Q _ => ∃ (a : Addr) (xs : List V) (ds : List PyData), vs = [.ref a] ∧ (SqL K H a xs ∨ SqT K H a xs) ∧ DqAll K H xs ds ∧ CmpD ds ∧ ds.length ≤ 100000 ∧ ∀ H', Same H H' → Q (.bl (ascD ds)) H'
theorem lt_of {K : PySem.W.Frag} {H : Hp} {x y : V} {d e : PyData} {Q : VK} (c : (isIntD d = true ∧ isIntD e = true) ∨ (isStrB d = true ∧ isStrB e = true)) (hx : Dq K H x d) (hy : Dq K H y e) (k : Q (.bl (ltD d e)) H) : rLtS x y H Q := by
  rcases c with ⟨c1, c2⟩ | ⟨c1, c2⟩
  · cases hx with
    | int i =>
      cases hy with
      | int j => exact k
      | _ => cases c2
    | _ => cases c1
  · cases hx with
    | str i =>
      cases hy with
      | str j => exact k
      | _ => cases c2
    | _ => cases c1
theorem ok_ascends {f : Addr} {fd : FuncData} (F : Fun K "ascends" "ascends" sascends f fd) (T : TxtA mg) : FnG P w K mg base CX0 1 f fd ["values"] (spAsc K) := by
  have nd := scascends.nd
  refine okG F scascends (fun vs H Q E h => ?_) (fun cdv A outer s H vs Q E hr h => ?_)
  · obtain ⟨_, _, _, rfl, _⟩ := h
    rfl
  · obtain ⟨a, xs, ds, rfl, hq, hd, hc, hn, k⟩ := h
    refine ⟨_, (pss_one (ps_ret (pe_callB (cr_all rfl) (by rfl) T.all (by decide +kernel) (pa_cons (pe_lc (own := [("one", 1), ("other", 2)]) (by rfl) nd (RZ.pi_zipA (by rfl) T.zip (pa_cons (av 0) (pa_cons (pe_slice (sl_listS.or sl_tupS) (av 0) (po_some pe_int) po_none) pa_nil))) (blkOk_by (N := ["values", "one", "other"]) (sc := defScope sascends) (by decide +kernel)) (fun _ _ _ _ _ => (show PG _ _ (gTup K 2 (gCons (gName 1) (gCons (gName 2) gNil))) from (pg_tup rfl (pgs_cons (pg_name (i := 1) nd rfl (Or.inl rfl)) (pgs_cons (pg_name (i := 2) nd rfl (Or.inl rfl)) pgs_nil))))) (fun _ _ _ _ _ => pts_nil) (fun _ _ _ _ _ => PE.up (pe_cmpA op_ltS (av 1) (av 2)))) pa_nil)))), ?_⟩
    have hlen := hd.length
    have fin : ∀ (H1 : Hp) (s1 : Same H H1) (D : Addr) (H' : Hp) (acc : List V), Same H1 H' → H' D = some (.lst acc) → acc.length = min xs.length xs.tail.length → (∀ (j : Nat) (v : V), acc[j]? = some v → ∃ d e, ds[j]? = some d ∧ ds.tail[j]? = some e ∧ v = .bl (ltD d e)) →
        rAll K [.ref D] H' Q := fun H1 s1 D H' acc s2 hl la hacc => by
      have ea := asc_range ds (acc := acc) (by rw [la, List.length_tail, List.length_tail, hlen]) hacc
      refine ⟨D, (ds.zip ds.tail).map fun p => ltD p.1 p.2, rfl, SqL.of (by rw [← ea]; exact hl), ?_⟩
      rw [all_mapN]
      exact k _ (s1.trans s2)
    have stp : ∀ (H1 H' H2 : Hp) (D : Addr) (j : Nat) (y : V) (σ0 : St), Same H H1 → Same H1 H' → YPair (fun i => xs[i]?) (fun i => xs.tail[i]?) j H' y H2 → σ0.length = 3 → (σ0.set 1 none).set 2 none = σ0 → H' D ≠ none →
        gTup K 2 (gCons (gName 1) (gCons (gName 2) gNil)) y σ0 H2 fun σ3 H3 => (σ3.set 2 none).set 1 none = (σ0.set 2 none).set 1 none ∧ tOp rLtS (aVar 1) (aVar 2) σ3 H3 fun u H4 => Same H' H4 ∧ ∃ d e, ds[j]? = some d ∧ ds.tail[j]? = some e ∧ u = .bl (ltD d e) := by
      rintro H1 H' H2 D j y σ0 s1 s2 ⟨T, x1, y1, rfl, hT, rfl, hx, hy⟩ hσ _ _
      refine tup2 ?_
      obtain ⟨d, hd1, hd2⟩ := hd.get hx
      have hy' : xs[j + 1]? = some y1 := by rw [← List.getElem?_tail]; exact hy
      obtain ⟨e, he1, he2⟩ := hd.get hy'
      have s3 : Same H (upd H' T (.tup [x1, y1])) := (s1.trans s2).new hT
      match σ0, hσ with
      | [o0, o1, o2], _ =>
        refine ⟨rfl, ?_⟩
        refine lt_of (K := K) (d := d) (e := e) (Q := fun u H4 => Same H' H4 ∧ ∃ d e, ds[j]? = some d ∧ ds.tail[j]? = some e ∧ u = .bl (ltD d e)) ?_ (Dq.same s3 _ _ hd2) (Dq.same s3 _ _ he2) ⟨(Same.refl _).new hT, d, e, hd1, by rw [List.getElem?_tail]; exact he1, rfl⟩
        rcases hc with hc | hc
        · exact .inl ⟨hc _ _ hd1, hc _ _ he1⟩
        · exact .inr ⟨hc _ _ hd1, hc _ _ he1⟩
    have hn1 : min xs.length xs.tail.length ≤ 1000000 := by omega
    refine ⟨1, rfl, ?_⟩
    rcases hq with hq | hq
    · refine .inl ⟨a, xs, rfl, hq, fun p H1 s1 n1 l1 => ?_⟩
      rw [cut_tail] at l1
      refine ⟨a, p, xs, xs.tail, rfl, .inl ⟨s1.sqL hq, SqL.of l1, fun D hD => ?_⟩⟩
      refine lc_itS (walk_zip rfl) (fun j u _ => ∃ d e, ds[j]? = some d ∧ ds.tail[j]? = some e ∧ u = .bl (ltD d e)) (fun _ _ _ _ _ h => h) hD hn1 (fun H' s2 => ⟨s2.sqL (s1.sqL hq), s2.sqL (SqL.of l1)⟩) (fun j y H' H2 hj s2 hD2 hy => ?_) gTup2_mono (fun H' acc s2 hl la hacc => fin H1 s1 D H' acc s2 hl la hacc)
      exact stp H1 H' H2 D j y _ s1 s2 hy rfl rfl hD2
    · refine .inr ⟨a, xs, rfl, hq, fun p H1 s1 l1 => ?_⟩
      rw [cut_tail] at l1
      refine ⟨a, p, xs, xs.tail, rfl, .inr ⟨s1.sqT hq, l1, fun D hD => ?_⟩⟩
      refine lc_itS (walk_zipT rfl) (fun j u _ => ∃ d e, ds[j]? = some d ∧ ds.tail[j]? = some e ∧ u = .bl (ltD d e)) (fun _ _ _ _ _ h => h) hD hn1 (fun H' s2 => ⟨s2.sqT (s1.sqT hq), s2.sqT l1⟩) (fun j y H' H2 hj s2 hD2 hy => ?_) gTup2_mono (fun H' acc s2 hl la hacc => fin H1 s1 D H' acc s2 hl la hacc)
      exact stp H1 H' H2 D j y _ s1 s2 hy rfl rfl hD2
end
end K02

set_option Elab.async false
set_option linter.all false
set_option maxRecDepth 100000
set_option maxHeartbeats 4000000
namespace K02
open PySem L2 PySem.KX
abbrev sare_places : Stmt := top 16
theorem scare_places : FnScope ["places", "value", "place"] ["places", "value"] (defScope sare_places) := ⟨rfl, rfl, rfl, by decide +kernel, rfl, by decide +kernel, by decide +kernel⟩
abbrev s_is_step : Stmt := top 17
theorem sc_is_step : FnScope ["places", "value", "name", "inputs", "outputs"] ["places", "value"] (defScope s_is_step) := ⟨rfl, rfl, rfl, by decide +kernel, rfl, by decide +kernel, by decide +kernel⟩
theorem step3 {n : Int} : ∀ {ds : List PyData}, ds.length ≠ 3 → stepD n (.tuple ds) = false
  | [], _ => rfl
  | [_], _ => rfl
  | [_, _], _ => rfl
  | [_, _, _], h => absurd rfl h
  | _ :: _ :: _ :: _ :: _, _ => rfl
theorem len3 {ds : List PyData} (h : ds.length = 3) : ∃ a b c, ds = [a, b, c] := by
  match ds, h with
  | [a, b, c], _ => exact ⟨a, b, c, rfl⟩
theorem dq3 {K : PySem.W.Frag} {H : Hp} {xs : List V} {a b c : PyData} (h : DqAll K H xs [a, b, c]) : ∃ x y z, xs = [x, y, z] ∧ Dq K H x a ∧ Dq K H y b ∧ Dq K H z c := by
  cases h with
  | cons h1 t =>
    cases t with
    | cons h2 t =>
      cases t with
      | cons h3 t =>
        cases t
        exact ⟨_, _, _, rfl, h1, h2, h3⟩
theorem sm3 {a b c : PyData} (h : smQ (.tuple [a, b, c]) = true) : smQ a = true ∧ smQ b = true ∧ smQ c = true := by
  have h2 := (smQ_tup h).2
  exact ⟨smQ_mem (i := 0) h2 rfl, smQ_mem (i := 1) h2 rfl, smQ_mem (i := 2) h2 rfl⟩
section
variable {P : Program} {w : World} {K : PySem.W.Frag} {mg : Str → Option Value} {base : Heap}
def spPlaces (K : PySem.W.Frag) (p : Int → PyData → Bool) : Sp := fun vs H Q _ => ∃ (n : Int) (v : V) (d : PyData), vs = [.int n, v] ∧ Wd K H v d ∧ ∀ H', Same H H' → Q (.bl (p n d)) H'
theorem ok_are_places {f : Addr} {fd : FuncData} (F : Fun K "are_places" "are_places" sare_places f fd) (T : TxtA mg) (Ois_integer_within : Own P w K mg base CX0 "is_integer_within" 2 ["value", "least", "most"] (spWithin K)) (Oascends : Own P w K mg base CX0 "ascends" 1 ["values"] (spAsc K)) :
    FnG P w K mg base CX0 3 f fd ["places", "value"] (spPlaces K placesD) := by
  have nd := scare_places.nd
  refine okG F scare_places (fun vs H Q E h => ?_) (fun cdv A outer s H vs Q E hr h => ?_)
  · obtain ⟨_, _, _, rfl, _⟩ := h
    rfl
  · obtain ⟨n, v, d, rfl, hd, k⟩ := h
    refine ⟨_, (pss_cons (ps_if (pt_not (pt_valA (pe_callB call_isiA (by rfl) T.isinstance (by decide +kernel) (pa_cons (av 1) (pa_cons (pe_bltn (v := .ty "tuple") (u := .type "tuple") rfl T.tuple (by decide +kernel) rfl) pa_nil))))) (pss_one (ps_ret pe_bl)) pss_nil)
      (pss_cons (ps_if (pt_not (pt_valA (pe_callB (cr_all rfl) (by rfl) T.all (by decide +kernel) (pa_cons (pe_lc (own := [("place", 2)]) (by rfl) nd (pi_tup (av 1)) (blkOk_by (N := ["places", "value", "place"]) (sc := defScope sare_places) (by decide +kernel)) (fun _ _ _ _ _ => (pg_name (i := 2) nd rfl (Or.inl rfl))) (fun _ _ _ _ _ => pts_nil) (fun _ _ _ _ _ => PE.up (pe_own Ois_integer_within hr (pa_cons (av 2) (pa_cons pe_int (pa_cons (pe_op op_subA (av 0) pe_int) pa_nil))) (by decide)))) pa_nil)))) (pss_one (ps_ret pe_bl)) pss_nil)
      (pss_one (ps_ret (pe_own Oascends hr (pa_cons (av 1) pa_nil) (by decide)))))), ?_⟩
    refine ⟨_, _, _, _, _, rfl, .ty _, hd.dq.ty, kit_ty (kit_tuple d), ?_⟩
    have no : isTupB d = false → placesD n d = false := fun e => by
      cases d <;> first | rfl | cases e
    cases hb : isTupB d with
    | false =>
      rw [no hb] at k
      refine (iteT (k _ (Same.refl _)) : if true = true then _ else _)
    | true =>
      refine iteF ?_
      obtain ⟨hdq, hsm⟩ := hd
      cases hdq with
      | @tup a xs ds hq ha =>
        have hlen := ha.length
        obtain ⟨hn, hs2⟩ := smQ_tup hsm
        refine ⟨a, rfl, ⟨_, hq⟩, fun D hD => ?_⟩
        refine lc_itS (walk_tup (xs := xs)) (fun j u _ => ∃ d, ds[j]? = some d ∧ u = .bl (intIn 0 (n - 1) d)) (fun _ _ _ _ _ h => h) hD (by omega) (fun H' s5 => s5.sqT hq) (fun j y H' H2 hj s5 hD5 ⟨e2, hy⟩ => ?_) gName_mono (fun H' acc s6 hl la hacc => ?_)
        · subst e2
          obtain ⟨d, h1, h2⟩ := ha.get hy
          exact ⟨rfl, y, d, 0, n - 1, rfl, ⟨Dq.same s5 _ _ h2, smQ_mem hs2 h1⟩, Same.refl _, d, h1, rfl⟩
        · have ea : acc = (ds.map (intIn 0 (n - 1))).map V.bl := acc_mapN (by rw [la, hlen]) hacc
          refine ⟨D, ds.map (intIn 0 (n - 1)), rfl, SqL.of (by rw [← ea]; exact hl), ?_⟩
          rw [all_mapN]
          have e3 : placesD n (.tuple ds) = (ds.all (intIn 0 (n - 1)) && ascD ds) := rfl
          rw [e3] at k
          cases c : ds.all (intIn 0 (n - 1)) with
          | false =>
            rw [c] at k
            refine (iteT (k _ s6) : if true = true then _ else _)
          | true =>
            rw [c] at k
            refine iteF ⟨a, xs, ds, rfl, .inr (s6.sqT hq), DqAll.same s6 _ _ ha, .inl fun i d hi => ?_, hn, fun H2 s7 => k _ (s6.trans s7)⟩
            have := List.all_eq_true.mp c d (List.mem_of_getElem? hi)
            cases d <;> first | rfl | cases this
      | _ => cases hb
theorem ok_is_step {f : Addr} {fd : FuncData} (F : Fun K "_is_step" "_is_step" s_is_step f fd) (T : TxtA mg) (Ois_name : Own P w K mg base CX0 "is_name" 1 ["value"] (spN K isNameD)) (Oare_places : Own P w K mg base CX0 "are_places" 3 ["places", "value"] (spPlaces K placesD)) :
    FnG P w K mg base CX0 4 f fd ["places", "value"] (spPlaces K stepD) := by
  have nd := sc_is_step.nd
  refine okG F sc_is_step (fun vs H Q E h => ?_) (fun cdv A outer s H vs Q E hr h => ?_)
  · obtain ⟨_, _, _, rfl, _⟩ := h
    rfl
  · obtain ⟨n, v, d, rfl, hd, k⟩ := h
    refine ⟨_, (pss_cons (ps_if (PW.pt (pw_or (pt_not (pt_valA (pe_callB call_isiA (by rfl) T.isinstance (by decide +kernel) (pa_cons (av 1) (pa_cons (pe_bltn (v := .ty "tuple") (u := .type "tuple") rfl T.tuple (by decide +kernel) rfl) pa_nil))))) (pw_or1 (pt_cmpA (op_neA hr.units64) (pe_callB call_lenA (by rfl) T.len PySem.boot_len (pa_cons (av 1) pa_nil)) pe_int)))) (pss_one (ps_ret pe_bl)) pss_nil)
      (pss_cons (ps_asg (av 1) (pg_tup rfl (pgs_cons (pg_name (i := 2) nd rfl (Or.inl rfl)) (pgs_cons (pg_name (i := 3) nd rfl (Or.inl rfl)) (pgs_cons (pg_name (i := 4) nd rfl (Or.inl rfl)) pgs_nil)))))
      (pss_cons (ps_if (PW.pt (pw_or (pt_not (pt_valA (pe_own Ois_name hr (pa_cons (av 2) pa_nil) (by decide)))) (pw_or (pt_cmpA (op_eqNil hr.units64) (av 3) (pe_tupS pa_nil)) (pw_or1 (pt_cmpA (op_eqNil hr.units64) (av 4) (pe_tupS pa_nil)))))) (pss_one (ps_ret pe_bl)) pss_nil)
      (pss_one (ps_ret (pe_and (pe_own Oare_places hr (pa_cons (av 0) (pa_cons (av 3) pa_nil)) (by decide)) (pe_one (pe_own Oare_places hr (pa_cons (av 0) (pa_cons (av 4) pa_nil)) (by decide))))))))), ?_⟩
    refine ⟨_, _, _, _, _, rfl, .ty _, hd.dq.ty, kit_ty (kit_tuple d), ?_⟩
    have no : isTupB d = false → stepD n d = false := fun e => by
      cases d <;> first | rfl | cases e
    cases hb : isTupB d with
    | false =>
      rw [no hb] at k
      refine (iteT (iteT (k _ (Same.refl _))) : if true = true then _ else _)
    | true =>
      refine iteF ?_
      obtain ⟨hdq, hsm⟩ := hd
      cases hdq with
      | @tup a xs ds hq ha =>
        have hlen := ha.length
        refine .inr ⟨xs, hq, ?_⟩
        by_cases h3 : ds.length = 3
        · have c : (!decide ((xs.length : Int) = 3)) = false := by rw [decide_eq_true (by omega)]; rfl
          show (if (!decide ((xs.length : Int) = 3)) = true then _ else _)
          rw [c]
          refine iteF ?_
          obtain ⟨da, db, dc, rfl⟩ := len3 h3
          obtain ⟨x, y, z, rfl, hx, hy, hz⟩ := dq3 ha
          obtain ⟨m1, m2, m3⟩ := sm3 hsm
          refine ⟨a, _, rfl, hq, rfl, _, _, rfl, _, _, rfl, _, _, rfl, rfl, ?_⟩
          refine ⟨x, da, rfl, ⟨hx, m1⟩, fun H1 s1 => ?_⟩
          have e3 : stepD n (.tuple [da, db, dc]) = (isNameD da && (!isNilD db && (!isNilD dc && (placesD n db && placesD n dc)))) := rfl
          rw [e3] at k
          cases c1 : isNameD da with
          | false =>
            rw [c1] at k
            refine (iteT (iteT (k _ s1)) : if true = true then _ else _)
          | true =>
            rw [c1] at k
            refine iteF ⟨by simp, fun p H2 s2 n2 l2 => ⟨p, db, rfl, SqT.of l2, Dq.same (s1.trans s2) _ _ hy, ?_⟩⟩
            cases c2 : isNilD db with
            | true =>
              rw [c2] at k
              refine iteT (iteT (k _ (s1.trans s2)))
            | false =>
              rw [c2] at k
              refine iteF ⟨by simp, fun p3 H3 s3 n3 l3 => ⟨p3, dc, rfl, SqT.of l3, Dq.same ((s1.trans s2).trans s3) _ _ hz, ?_⟩⟩
              cases c3 : isNilD dc with
              | true =>
                rw [c3] at k
                refine iteT (k _ ((s1.trans s2).trans s3))
              | false =>
                rw [c3] at k
                have s4 := (s1.trans s2).trans s3
                refine iteF ⟨n, y, db, rfl, ⟨Dq.same s4 _ _ hy, m2⟩, fun H5 s5 => ⟨_, rfl, ?_⟩⟩
                cases c4 : placesD n db with
                | false =>
                  rw [c4] at k
                  exact iteF (k _ (s4.trans s5))
                | true =>
                  rw [c4] at k
                  exact iteT ⟨n, z, dc, rfl, ⟨Dq.same (s4.trans s5) _ _ hz, m3⟩, fun H6 s6 => k _ ((s4.trans s5).trans s6)⟩
        · have c : (!decide ((xs.length : Int) = 3)) = true := by rw [decide_eq_false (by omega)]; rfl
          show (if (!decide ((xs.length : Int) = 3)) = true then _ else _)
          rw [c]
          rw [step3 h3] at k
          exact iteT (k _ (Same.refl _))
      | _ => cases hb
end
end K02

set_option Elab.async false
set_option linter.all false
set_option maxRecDepth 100000
set_option maxHeartbeats 4000000
namespace K02
open PySem L2 PySem.KX
abbrev sis_net : Stmt := top 12
theorem scis_net : FnScope ["value", "places", "steps", "step"] ["value"] (defScope sis_net) := ⟨rfl, rfl, rfl, by decide +kernel, rfl, by decide +kernel, by decide +kernel⟩
theorem net2 : ∀ {ds : List PyData}, ds.length ≠ 2 → netD (.tuple ds) = false
  | [], _ => rfl
  | [d], _ => by cases d <;> rfl
  | [_, _], h => absurd rfl h
  | d :: e :: _ :: _, _ => by cases d <;> first | rfl | (cases e <;> rfl)
theorem len2 {ds : List PyData} (h : ds.length = 2) : ∃ a b, ds = [a, b] := by
  match ds, h with
  | [a, b], _ => exact ⟨a, b, rfl⟩
theorem dq2 {K : PySem.W.Frag} {H : Hp} {xs : List V} {a b : PyData} (h : DqAll K H xs [a, b]) : ∃ x y, xs = [x, y] ∧ Dq K H x a ∧ Dq K H y b := by
  cases h with
  | cons h1 t =>
    cases t with
    | cons h2 t =>
      cases t
      exact ⟨_, _, rfl, h1, h2⟩
theorem sm2 {a b : PyData} (h : smQ (.tuple [a, b]) = true) : smQ a = true ∧ smQ b = true := by
  have h2 := (smQ_tup h).2
  exact ⟨smQ_mem (i := 0) h2 rfl, smQ_mem (i := 1) h2 rfl⟩
theorem step_is {n : Int} {d : PyData} (h : stepD n d = true) : ∃ x b c, d = .tuple [.str x, b, c] := by
  cases d with
  | tuple ds =>
    by_cases h3 : ds.length = 3
    · obtain ⟨a, b, c, rfl⟩ := len3 h3
      have e3 : stepD n (.tuple [a, b, c]) = (isNameD a && (!isNilD b && (!isNilD c && (placesD n b && placesD n c)))) := rfl
      rw [e3] at h
      have h1 := (Bool.and_eq_true_iff.mp h).1
      cases a with
      | str x => exact ⟨x, b, c, rfl⟩
      | _ => cases h1
    · rw [step3 h3] at h
      cases h
  | _ => cases h
section
variable {P : Program} {w : World} {K : PySem.W.Frag} {mg : Str → Option Value} {base : Heap}
theorem ok_is_net {f : Addr} {fd : FuncData} (F : Fun K "is_net" "is_net" sis_net f fd) (T : TxtA mg) (Ois_integer_within : Own P w K mg base CX0 "is_integer_within" 2 ["value", "least", "most"] (spWithin K)) (Oascends : Own P w K mg base CX0 "ascends" 1 ["values"] (spAsc K))
    (O_is_step : Own P w K mg base CX0 "_is_step" 4 ["places", "value"] (spPlaces K stepD)) : FnG P w K mg base CX0 5 f fd ["value"] (spN K netD) := by
  have nd := scis_net.nd
  refine okG F scis_net (fun vs H Q E h => ?_) (fun cdv A outer s H vs Q E hr h => ?_)
  · obtain ⟨_, _, rfl, _⟩ := h
    rfl
  · obtain ⟨v, d, rfl, hd, k⟩ := h
    refine ⟨_, (pss_cons (ps_if (PW.pt (pw_or (pt_not (pt_valA (pe_callB call_isiA (by rfl) T.isinstance (by decide +kernel) (pa_cons (av 0) (pa_cons (pe_bltn (v := .ty "tuple") (u := .type "tuple") rfl T.tuple (by decide +kernel) rfl) pa_nil))))) (pw_or1 (pt_cmpA (op_neA hr.units64) (pe_callB call_lenA (by rfl) T.len PySem.boot_len (pa_cons (av 0) pa_nil)) pe_int)))) (pss_one (ps_ret pe_bl)) pss_nil)
      (pss_cons (ps_asg (av 0) (pg_tup rfl (pgs_cons (pg_name (i := 1) nd rfl (Or.inr rfl)) (pgs_cons (pg_name (i := 2) nd rfl (Or.inl rfl)) pgs_nil))))
      (pss_cons (ps_if (pt_not (pt_valA (pe_own Ois_integer_within hr (pa_cons (av 1) (pa_cons pe_int (pa_cons (pe_gint T.g_MAX_PLACES) pa_nil))) (by decide)))) (pss_one (ps_ret pe_bl)) pss_nil)
      (pss_cons (ps_if (PW.pt (pw_or (pt_not (pt_valA (pe_callB call_isiA (by rfl) T.isinstance (by decide +kernel) (pa_cons (av 2) (pa_cons (pe_bltn (v := .ty "tuple") (u := .type "tuple") rfl T.tuple (by decide +kernel) rfl) pa_nil))))) (pw_or1 (pt_not (pt_chain op_leA op_leA pe_int (pe_callB call_lenA (by rfl) T.len PySem.boot_len (pa_cons (av 2) pa_nil)) (pe_gint T.g_MAX_STEPS)))))) (pss_one (ps_ret pe_bl)) pss_nil)
      (pss_cons (ps_if (pt_not (pt_valA (pe_callB (cr_all rfl) (by rfl) T.all (by decide +kernel) (pa_cons (pe_lc (own := [("step", 3)]) (by rfl) nd (pi_tup (av 2)) (blkOk_by (N := ["value", "places", "steps", "step"]) (sc := defScope sis_net) (by decide +kernel)) (fun _ _ _ _ _ => (pg_name (i := 3) nd rfl (Or.inl rfl))) (fun _ _ _ _ _ => pts_nil) (fun _ _ _ _ _ => PE.up (pe_own O_is_step hr (pa_cons (av 1) (pa_cons (av 3) pa_nil)) (by decide)))) pa_nil)))) (pss_one (ps_ret pe_bl)) pss_nil)
      (pss_one (ps_ret (pe_own Oascends hr (pa_cons (pe_lc (own := [("step", 3)]) (by rfl) nd (pi_tup (av 2)) (blkOk_by (N := ["value", "places", "steps", "step"]) (sc := defScope sis_net) (by decide +kernel)) (fun _ _ _ _ _ => (pg_name (i := 3) nd rfl (Or.inl rfl))) (fun _ _ _ _ _ => pts_nil) (fun _ _ _ _ _ => PE.up (show PE _ _ (tOp (rIxA K) (aVar 3) (tC (.int 0))) from (pe_ixA (av 3) pe_int)))) pa_nil) (by decide))))))))), ?_⟩
    refine ⟨_, _, _, _, _, rfl, .ty _, hd.dq.ty, kit_ty (kit_tuple d), ?_⟩
    have no : isTupB d = false → netD d = false := fun e => by
      cases d <;> first | rfl | cases e
    cases hb : isTupB d with
    | false =>
      rw [no hb] at k
      refine (iteT (iteT (k _ (Same.refl _))) : if true = true then _ else _)
    | true =>
      refine iteF ?_
      obtain ⟨hdq, hsm⟩ := hd
      cases hdq with
      | @tup a xs ds hq ha =>
        have hlen := ha.length
        refine .inr ⟨xs, hq, ?_⟩
        by_cases h2 : ds.length = 2
        · have c : (!decide ((xs.length : Int) = 2)) = false := by rw [decide_eq_true (by omega)]; rfl
          show (if (!decide ((xs.length : Int) = 2)) = true then _ else _)
          rw [c]
          refine iteF ?_
          obtain ⟨da, db, rfl⟩ := len2 h2
          obtain ⟨x, y, rfl, hx, hy⟩ := dq2 ha
          obtain ⟨m1, m2⟩ := sm2 hsm
          refine ⟨a, _, rfl, hq, rfl, _, _, rfl, _, _, rfl, rfl, ?_⟩
          refine ⟨x, da, 2, 30, rfl, ⟨hx, m1⟩, ?_⟩
          cases c1 : intIn 2 30 da with
          | false =>
            have e : netD (.tuple [da, db]) = false := by
              cases da with
              | int n =>
                cases db with
                | tuple es =>
                  show ((decide (2 ≤ n) && decide (n ≤ 30)) && _) = false
                  rw [show (decide (2 ≤ n) && decide (n ≤ 30)) = false from c1]
                  rfl
                | _ => rfl
              | _ => rfl
            rw [e] at k
            refine (iteT (k _ (Same.refl _)) : if true = true then _ else _)
          | true =>
            refine iteF ?_
            cases hx with
            | int n =>
              have c1' : (decide (2 ≤ n) && decide (n ≤ 30)) = true := c1
              refine ⟨_, _, _, _, _, rfl, .ty _, hy.ty, kit_ty (kit_tuple db), ?_⟩
              cases hb2 : isTupB db with
              | false =>
                have e : netD (.tuple [.int n, db]) = false := by cases db <;> first | rfl | cases hb2
                rw [e] at k
                refine (iteT (iteT (k _ (Same.refl _))) : if true = true then _ else _)
              | true =>
                refine iteF ?_
                cases hy with
                | @tup b ys es hyq hya =>
                  have hlen2 := hya.length
                  obtain ⟨hn, hs2⟩ := smQ_tup m2
                  have en : netD (.tuple [.int n, .tuple es]) = ((decide (2 ≤ n) && decide (n ≤ 30)) && ((decide (1 ≤ es.length) && decide (es.length ≤ 40)) && (es.all (stepD n) && ascD (es.map firstD)))) := rfl
                  rw [en, c1'] at k
                  refine .inr ⟨ys, hyq, _, rfl, ?_⟩
                  have fin1 : (decide (1 ≤ es.length) && decide (es.length ≤ 40)) = false → Q (.bl false) H := fun e => by
                    rw [e] at k
                    exact k _ (Same.refl _)
                  refine ite2 (fun d1 => ?_) (fun d1 => ?_)
                  · have g1 : decide (1 ≤ es.length) = true := decide_eq_true (by have := of_decide_eq_true d1; omega)
                    refine ⟨_, rfl, ?_⟩
                    cases g2 : decide (es.length ≤ 40) with
                    | false =>
                      have d2 : decide ((ys.length : Int) ≤ 40) = false := decide_eq_false (by have := of_decide_eq_false g2; omega)
                      show (if (!decide ((ys.length : Int) ≤ 40)) = true then _ else _)
                      rw [d2]
                      exact iteT (fin1 (by rw [g1, g2]; rfl))
                    | true =>
                      have d2 : decide ((ys.length : Int) ≤ 40) = true := decide_eq_true (by have := of_decide_eq_true g2; omega)
                      show (if (!decide ((ys.length : Int) ≤ 40)) = true then _ else _)
                      rw [d2]
                      rw [g1, g2] at k
                      refine iteF ⟨b, rfl, ⟨_, hyq⟩, fun D hD => ?_⟩
                      refine lc_itS (walk_tup (xs := ys)) (fun j u _ => ∃ d, es[j]? = some d ∧ u = .bl (stepD n d)) (fun _ _ _ _ _ h => h) hD (by omega) (fun H' s5 => s5.sqT hyq) (fun j z H' H2 hj s5 hD5 ⟨e2, hz⟩ => ?_) gName_mono (fun H' acc s6 hl la hacc => ?_)
                      · subst e2
                        obtain ⟨d, h1, h2⟩ := hya.get hz
                        exact ⟨rfl, n, z, d, rfl, ⟨Dq.same s5 _ _ h2, smQ_mem hs2 h1⟩, fun H4 s7 => ⟨s7, d, h1, rfl⟩⟩
                      · have ea : acc = (es.map (stepD n)).map V.bl := acc_mapN (by rw [la, hlen2]) hacc
                        refine ⟨D, es.map (stepD n), rfl, SqL.of (by rw [← ea]; exact hl), ?_⟩
                        rw [all_mapN]
                        cases c3 : es.all (stepD n) with
                        | false =>
                          rw [c3] at k
                          refine (iteT (k _ s6) : if true = true then _ else _)
                        | true =>
                          rw [c3] at k
                          have hst : ∀ (j : Nat) (d : PyData), es[j]? = some d → ∃ x b c, d = .tuple [.str x, b, c] := fun j d hj => step_is (List.all_eq_true.mp c3 d (List.mem_of_getElem? hj))
                          refine iteF ⟨b, rfl, ⟨_, s6.sqT hyq⟩, fun D2 hD2 => ?_⟩
                          refine lc_itS (walk_tup (xs := ys)) (fun j u _ => ∃ x, (es.map firstD)[j]? = some (.str x) ∧ u = .str x) (fun _ _ _ _ _ h => h) hD2 (by omega) (fun H' s7 => (s6.trans s7).sqT hyq) (fun j z H' H2 hj s7 hD7 ⟨e2, hz⟩ => ?_) gName_mono (fun H2 acc2 s8 hl2 la2 hacc2 => ?_)
                          · subst e2
                            obtain ⟨d, h1, h2⟩ := hya.get hz
                            obtain ⟨x, bb, cc, rfl⟩ := hst j d h1
                            have h2' := Dq.same (s6.trans s7) _ _ h2
                            cases h2' with
                            | @tup q zs _ hzq hza =>
                              obtain ⟨z1, z2, z3, rfl, hz1, _, _⟩ := dq3 hza
                              cases hz1
                              refine ⟨rfl, .inr ⟨_, .str x, hzq, rfl, Same.refl _, x, ?_, rfl⟩⟩
                              rw [List.getElem?_map, h1]
                              rfl
                          · refine ⟨D2, acc2, es.map firstD, rfl, .inl (SqL.of hl2), dqAll_get _ _ (by simp [la2, hlen2]) (fun j u hu => ?_), .inr (fun j d hj => ?_), by simp; omega, fun H3 s9 => k _ ((s6.trans s8).trans s9)⟩
                            · obtain ⟨x, h1, rfl⟩ := hacc2 j u hu
                              exact ⟨.str x, h1, .str x⟩
                            · rw [List.getElem?_map] at hj
                              cases q : es[j]? with
                              | none => rw [q] at hj; cases hj
                              | some e0 =>
                                rw [q] at hj
                                obtain ⟨x, bb, cc, rfl⟩ := hst j e0 q
                                cases hj
                                rfl
                  · have g1 : decide (1 ≤ es.length) = false := decide_eq_false fun z => d1 (decide_eq_true (by omega))
                    exact ⟨_, rfl, iteT (fin1 (by rw [g1]; rfl))⟩
                | _ => cases hb2
            | _ => cases c1
        · have c : (!decide ((xs.length : Int) = 2)) = true := by rw [decide_eq_false (by omega)]; rfl
          show (if (!decide ((xs.length : Int) = 2)) = true then _ else _)
          rw [c]
          rw [net2 h2] at k
          exact iteT (k _ (Same.refl _))
      | _ => cases hb
end
end K02

set_option Elab.async false
set_option linter.all false
set_option maxRecDepth 100000
set_option maxHeartbeats 4000000
namespace K02
open PySem L2 PySem.KX
abbrev bmVE : List Value := [.type "ValueError", .type "Exception", .type "BaseException", .type "object"]
abbrev FVE := PySem.F.excBase_ValueError
abbrev scheck_net : Stmt := top 15
theorem sccheck_net : FnScope ["net"] ["net"] (defScope scheck_net) := ⟨rfl, rfl, rfl, by decide +kernel, rfl, by decide +kernel, by decide +kernel⟩
theorem net_is {d : PyData} (h : netD d = true) : ∃ n es, d = .tuple [.int n, .tuple es] ∧ es.all (stepD n) = true ∧ es.length ≤ 40 := by
  cases d with
  | tuple ds =>
    by_cases h2 : ds.length = 2
    · obtain ⟨a, b, rfl⟩ := len2 h2
      cases a with
      | int n =>
        cases b with
        | tuple es =>
          have e : netD (.tuple [.int n, .tuple es]) = ((decide (2 ≤ n) && decide (n ≤ 30)) && ((decide (1 ≤ es.length) && decide (es.length ≤ 40)) && (es.all (stepD n) && ascD (es.map firstD)))) := rfl
          rw [e] at h
          simp only [Bool.and_eq_true, decide_eq_true_eq] at h
          exact ⟨n, es, rfl, h.2.2.1, h.2.1.2⟩
        | _ => cases h
      | _ => cases h
    · rw [net2 h2] at h
      cases h
  | _ => cases h
section
variable {P : Program} {w : World} {K : PySem.W.Frag} {mg : Str → Option Value} {base : Heap}
def spChk (K : PySem.W.Frag) (cI : Addr) (p : PyData → Bool) : Sp := fun vs H Q E => ∃ (v : V) (d : PyData), vs = [v] ∧ Wd K H v d ∧ (p d = true → ∀ H', Same H H' → Q .non H') ∧ (p d = false → ∀ H', Same H H' → E (.ref cI) none H')
theorem ok_check_net {f cI : Addr} {fd : FuncData} (F : Fun K "check_net" "check_net" scheck_net f fd) (Ei : ErrM K mg "InvalidNet" cI "ValueError.__new__" bmVE) (tI : PySem.W.typeIn K (.ref cI) = some (.type "type")) (Ois_net : Own P w K mg base CX0 "is_net" 5 ["value"] (spN K netD)) :
    FnG P w K mg base (L2.CX P w) 6 f fd ["net"] (spChk K cI netD) := by
  have nd := sccheck_net.nd
  refine okGX F sccheck_net (fun vs H Q E h => ?_) (fun cdv A outer s H vs Q E hr h => ?_)
  · obtain ⟨_, _, rfl, _⟩ := h
    rfl
  · obtain ⟨v, d, rfl, hd, k1, k2⟩ := h
    refine ⟨_, (pss_one (ps_if (pt_not (pt_valA (pe_own Ois_net hr (pa_cons (av 0) pa_nil) (by decide)))) (pss_one (ps_raise rfl takesE (pmk_own FVE Ei.q Ei.g Ei.k (raises_own Ei.xi.ex tI) rfl))) pss_nil)), ?_⟩
    refine ⟨v, d, rfl, hd, fun H' s' => ?_⟩
    cases c : netD d with
    | true => exact iteF (k1 c _ s')
    | false => refine (iteT (k2 c _ s') : if true = true then _ else _)
end
end K02

set_option Elab.async false
set_option linter.all false
set_option maxRecDepth 100000
set_option maxHeartbeats 4000000
namespace K02
open PySem L2 PySem.KX
structure TxtS (mg : Str → Option Value) : Prop where
  set : mg "set" = none
  sorted : mg "sorted" = none
section
variable {P : Program} {w : World} {K : PySem.W.Frag} {mg : Str → Option Value} {base : Heap}
/-- a row of ints, as values, as data -/
abbrev tupI (ns : List Int) : PyData := .tuple (ns.map PyData.int)
theorem dq_ints : ∀ {ns : List Int} {xs : List V} {K : PySem.W.Frag} {H : Hp}, DqAll K H xs (ns.map PyData.int) → xs = ns.map V.int
  | [], _, _, _, h => by cases h; rfl
  | n :: r, _, _, _, h => by
    cases h with
    | cons h1 t =>
      cases h1
      rw [dq_ints t]
      rfl
theorem ints_dq : ∀ {ns : List Int} {K : PySem.W.Frag} {H : Hp}, DqAll K H (ns.map V.int) (ns.map PyData.int)
  | [], _, _ => .nil
  | n :: r, _, _ => .cons (.int n) ints_dq
end
end K02

set_option Elab.async false
set_option linter.all false
set_option maxRecDepth 100000
set_option maxHeartbeats 4000000
namespace K02
open PySem L2 PySem.KX StX
open PySem.W (AllAlike Sortable dataLe EachIs alike alikeAll)
def insI (k : Int) : List Int → List Int
  | [] => [k]
  | x :: r => if k < x then k :: x :: r else if k = x then x :: r else x :: insI k r
def tidyI (ns : List Int) : List Int := ns.foldr insI []
theorem insI_mem (k : Int) : ∀ (r : List Int) (j : Int), j ∈ insI k r ↔ j = k ∨ j ∈ r
  | [], j => by simp [insI]
  | x :: r, j => by
    unfold insI
    split
    · simp
    · split
      · rename_i h1 h2
        subst h2
        simp
      · rw [List.mem_cons, insI_mem k r j, List.mem_cons]
        constructor
        · rintro (h | h | h)
          · exact .inr (.inl h)
          · exact .inl h
          · exact .inr (.inr h)
        · rintro (h | h | h)
          · exact .inr (.inl h)
          · exact .inl h
          · exact .inr (.inr h)
theorem insI_asc (k : Int) : ∀ (r : List Int), r.Pairwise (· < ·) → (insI k r).Pairwise (· < ·)
  | [], _ => by simp [insI]
  | x :: r, h => by
    obtain ⟨h1, h2⟩ := List.pairwise_cons.mp h
    unfold insI
    split
    · rename_i c
      exact List.pairwise_cons.mpr ⟨fun y hy => by
        rcases List.mem_cons.mp hy with z | z
        · omega
        · have := h1 y z
          omega, h⟩
    · split
      · exact h
      · rename_i c1 c2
        refine List.pairwise_cons.mpr ⟨fun y hy => ?_, insI_asc k r h2⟩
        rcases (insI_mem k r y).mp hy with z | z
        · omega
        · exact h1 y z
theorem tidyI_ok : ∀ ns : List Int, Tidy ns (tidyI ns)
  | [] => ⟨List.Pairwise.nil, fun k => Iff.rfl⟩
  | n :: r => by
    obtain ⟨h1, h2⟩ := tidyI_ok r
    refine ⟨insI_asc n _ h1, fun k => ?_⟩
    show k ∈ insI n (tidyI r) ↔ _
    rw [insI_mem, h2 k, List.mem_cons]
def intOf : PyData → Int
  | .int i => i
  | _ => 0
def tidyD (bs : List PyData) : List PyData := (tidyI (bs.map intOf)).map PyData.int
def putD : PyData → PyData
  | .tuple [a, .tuple bs, .tuple cs] => .tuple [a, .tuple (tidyD bs), .tuple (tidyD cs)]
  | d => d
def makeD (n : Int) (ds : List PyData) : PyData := .tuple [.int n, .tuple ((ds.map putD).mergeSort (dataLe false id))]
/-- what can be put in order is a name with two rows of ints -/
theorem put_is (a : PyData) (ns ms : List Int) : putD (.tuple [a, tupI ns, tupI ms]) = .tuple [a, tupI (tidyI ns), tupI (tidyI ms)] := by
  have e : ∀ l : List Int, (l.map PyData.int).map intOf = l := fun l => by
    rw [List.map_map]
    exact List.map_id l
  show PyData.tuple [a, .tuple (tidyD (ns.map PyData.int)), .tuple (tidyD (ms.map PyData.int))] = _
  unfold tidyD
  rw [e, e]
theorem alike_ints : ∀ ns ms : List Int, alikeAll (ns.map PyData.int) (ms.map PyData.int) = true
  | [], _ => by simp [alikeAll]
  | n :: r, [] => by simp [alikeAll]
  | n :: r, m :: l => by
    show (alike (.int n) (.int m) && alikeAll (r.map PyData.int) (l.map PyData.int)) = true
    rw [alike_ints r l]
    rfl
theorem alike_rows (x y : Str) (ns ms ns' ms' : List Int) : alike (.tuple [.str x, tupI ns, tupI ms]) (.tuple [.str y, tupI ns', tupI ms']) = true := by
  show (alike (.str x) (.str y) && (alikeAll (ns.map PyData.int) (ns'.map PyData.int) && (alikeAll (ms.map PyData.int) (ms'.map PyData.int) && alikeAll [] []))) = true
  rw [alike_ints, alike_ints]
  rfl
end K02

set_option Elab.async false
set_option linter.all false
set_option maxRecDepth 100000
set_option maxHeartbeats 4000000
namespace K02
open PySem L2 PySem.KX StX
open PySem.W (AllAlike Sortable dataLe EachIs alike alikeAll)
theorem DqAll_snoc {K : PySem.W.Frag} {H : Hp} {v : V} {d : PyData} : ∀ {vs : List V} {ds : List PyData}, DqAll K H vs ds → Dq K H v d → DqAll K H (vs ++ [v]) (ds ++ [d])
  | _, _, .nil, h => .cons h .nil
  | _, _, .cons h1 t, h => .cons h1 (DqAll_snoc t h)
theorem smAll_of : ∀ {ds : List PyData}, (∀ d ∈ ds, smQ d = true) → smQAll ds = true
  | [], _ => rfl
  | d :: r, h => by
    simp only [smQAll, Bool.and_eq_true]
    exact ⟨h d List.mem_cons_self, smAll_of fun e he => h e (List.mem_cons_of_mem _ he)⟩
theorem insI_len (k : Int) : ∀ r : List Int, (insI k r).length ≤ r.length + 1
  | [] => by simp [insI]
  | x :: r => by
    unfold insI
    split
    · simp
    · split
      · simp
      · have := insI_len k r
        simp only [List.length_cons]
        omega
theorem tidyI_len : ∀ ns : List Int, (tidyI ns).length ≤ ns.length
  | [] => Nat.le_refl _
  | n :: r => by
    have h := insI_len n (tidyI r)
    have h2 := tidyI_len r
    show (insI n (tidyI r)).length ≤ r.length + 1
    omega
theorem sm_ints (ns : List Int) : smQAll (ns.map PyData.int) = true := smAll_of fun d hd => by
  obtain ⟨i, _, rfl⟩ := List.mem_map.mp hd
  rfl
theorem sm_row {x : Str} {ns ms : List Int} (h1 : x.length ≤ 1000) (h2 : ns.length ≤ 60) (h3 : ms.length ≤ 60) : smQ (.tuple [.str x, tupI ns, tupI ms]) = true := by
  simp only [smQ, smQAll, sm_ints, List.length_map, Bool.and_eq_true, decide_eq_true_eq, Bool.and_true]
  refine ⟨by simp, ?_⟩
  omega
theorem depth_row (x : Str) (ns ms : List Int) : PyData.depth (.tuple [.str x, tupI ns, tupI ms]) ≤ 50 := by
  simp only [PyData.depth, PyData.depthAll, PySem.W.depth_ints]
  omega
theorem dq_pairs {K : PySem.W.Frag} {H : Hp} : ∀ {l : List (V × PyData)}, (∀ p ∈ l, Dq K H p.1 p.2) → DqAll K H (l.map Prod.fst) (l.map Prod.snd)
  | [], _ => .nil
  | p :: r, h => .cons (h p List.mem_cons_self) (dq_pairs fun q hq => h q (List.mem_cons_of_mem _ hq))
theorem dq_zip {K : PySem.W.Frag} {H : Hp} : ∀ {vs : List V} {ds : List PyData}, DqAll K H vs ds → ∀ p ∈ vs.zip ds, Dq K H p.1 p.2
  | _, _, .nil, p, hp => nomatch hp
  | _, _, .cons h t, p, hp => by
    rcases List.mem_cons.mp hp with e | e
    · rw [e]
      exact h
    · exact dq_zip t p e
theorem sortQ_snd {vs : List V} {ds : List PyData} (hl : vs.length = ds.length) : (sortQ vs ds).map Prod.snd = ds.mergeSort (dataLe false id) := by
  have e := List.map_mergeSort (r := dataLe false Prod.snd) (s := dataLe false id) (f := Prod.snd) (l := vs.zip ds) (fun a _ b _ => rfl)
  exact e.trans (by rw [zip_snd hl])
theorem sortQ_dq {K : PySem.W.Frag} {H : Hp} {vs : List V} {ds : List PyData} (h : DqAll K H vs ds) : DqAll K H ((sortQ vs ds).map Prod.fst) (ds.mergeSort (dataLe false id)) := by
  rw [← sortQ_snd h.length]
  exact dq_pairs fun p hp => dq_zip h p (List.mem_mergeSort.mp hp)
section
variable {P : Program} {w : World} {K : PySem.W.Frag} {mg : Str → Option Value} {base : Heap}
end
end K02

set_option Elab.async false
set_option linter.all false
set_option maxRecDepth 100000
set_option maxHeartbeats 4000000
namespace K02
open PySem L2 PySem.KX
abbrev s_law_roll : Stmt := top 26
theorem sc_law_roll : FnScope ["dice", "total", "found", "one", "two"] ["dice", "total"] (defScope s_law_roll) := ⟨rfl, rfl, rfl, by decide +kernel, rfl, by decide +kernel, by decide +kernel⟩
abbrev s_law_dice : Stmt := top 25
theorem sc_law_dice : FnScope ["script", "at", "cell", "great", "seed", "place", "other"] ["script", "at"] (defScope s_law_dice) := ⟨rfl, rfl, rfl, by decide +kernel, rfl, by decide +kernel, by decide +kernel⟩
abbrev s_law_one_of : Stmt := top 27
theorem sc_law_one_of : FnScope ["dice", "items"] ["dice", "items"] (defScope s_law_one_of) := ⟨rfl, rfl, rfl, by decide +kernel, rfl, by decide +kernel, by decide +kernel⟩
structure Txt (mg : Str → Option Value) : Prop where
  len : mg "len" = none
  abs : mg "abs" = none
  int : mg "int" = none
  enumerate : mg "enumerate" = none
section
variable {P : Program} {w : World} {K : PySem.W.Frag} {mg : Str → Option Value} {base : Heap}
def spRoll : Sp := fun vs H Q _ => ∃ (p : Addr) (total g s n : Int), vs = [.ref p, .int total] ∧ H p = some (.lst [.int g, .int s, .int n]) ∧ 0 < total ∧ total < 2 ^ 60 ∧ 0 ≤ g ∧ 0 ≤ s ∧ s < 2 ^ 61 ∧ 0 ≤ n ∧ n < 2 ^ 30 ∧
  ∀ r g' n' : Int, 0 ≤ r → r < total → 0 ≤ g' → n ≤ n' → n' ≤ n + 1 → Q (.int r) (upd H p (.lst [.int g', .int s, .int n']))
theorem ok_roll {f : Addr} {fd : FuncData} (F : Fun K "_law_roll" "_law_roll" s_law_roll f fd) : FnG P w K mg base CX0 1 f fd ["dice", "total"] spRoll := by
  have nd := sc_law_roll.nd
  refine okG F sc_law_roll (fun vs H Q E h => ?_) (fun cdv A outer s H vs Q E hr h => ?_)
  · obtain ⟨p, total, g, s, n, rfl, _⟩ := h
    rfl
  · obtain ⟨p, total, g, s, n, rfl, hp, h1, h2, h3, h4, h5, h6, h7, k⟩ := h
    refine ⟨_, (pss_cons (ps_if (pt_cmpA op_gtA (pe_ixA (av 0) pe_int) pe_int) (pss_cons (ps_set (i := 2) nd rfl (Or.inl rfl) (pe_op op_modA (pe_ixA (av 0) pe_int) (av 1)))
      (pss_cons (ps_asg (pe_op op_fdvA (pe_ixA (av 0) pe_int) (av 1)) (pg_sub (av 0) pe_int set_list))
      (pss_one (ps_ret (av 2))))) pss_nil)
      (pss_cons (ps_asg (pe_op op_addA (pe_ixA (av 0) pe_int) pe_int) (pg_sub (av 0) pe_int set_list))
      (pss_cons (ps_set (i := 3) nd rfl (Or.inl rfl) (pe_op op_modA (pe_op op_powA (pe_op op_addA (pe_ixA (av 0) pe_int) (pe_op op_mulA pe_int (pe_ixA (av 0) pe_int))) pe_int) pe_int))
      (pss_cons (ps_set (i := 4) nd rfl (Or.inl rfl) (pe_op op_modA (pe_op op_powA (pe_op op_addA (pe_op op_addA (av 3) (pe_op op_modA (pe_ixA (av 0) pe_int) pe_int)) (pe_op op_mulA pe_int (pe_ixA (av 0) pe_int))) pe_int) pe_int))
      (pss_one (ps_ret (pe_op op_modA (pe_op op_fdvA (av 4) pe_int) (av 1)))))))), ?_⟩
    have hS : SqL K H p [.int g, .int s, .int n] := SqL.of hp
    refine .inl ⟨_, _, hS, rfl, ?_⟩
    refine ite2 (fun hg => ?_) (fun hg => ?_)
    · refine .inl ⟨_, _, hS, rfl, h1, ?_⟩
      refine .inl ⟨_, _, hS, rfl, wide_div h1 (b := 60) (by omega) (by decide) (by decide), ?_⟩
      refine ⟨p, _, 0, 0, rfl, rfl, hp, rfl, ?_⟩
      exact k (g % total) (g / total) n (Int.emod_nonneg _ (by omega)) (Int.emod_lt_of_pos _ h1) (Int.ediv_nonneg h3 (by omega)) (by omega) (by omega)
    · refine .inl ⟨_, _, hS, rfl, ?_⟩
      refine ⟨p, _, 2, 2, rfl, rfl, hp, rfl, ?_⟩
      have hS1 : SqL K (upd H p (.lst [.int g, .int s, .int (n + 1)])) p [.int g, .int s, .int (n + 1)] := SqL.of upd_same
      refine .inl ⟨_, _, hS1, rfl, ?_⟩
      refine .inl ⟨_, _, hS1, rfl, .inl ⟨by decide, by decide⟩, ?_⟩
      refine ⟨pow_ok (by omega) (by omega) (by decide) (by decide), by decide, ?_⟩
      have b1 := Int.emod_nonneg ((s + 15485863 * (n + 1)) ^ Int.toNat 3) (show (2305843009213693951 : Int) ≠ 0 by decide)
      have b2 := Int.emod_lt_of_pos ((s + 15485863 * (n + 1)) ^ Int.toNat 3) (show (0 : Int) < 2305843009213693951 by decide)
      refine .inl ⟨_, _, hS1, rfl, by decide, ?_⟩
      have b3 := Int.emod_nonneg s (show (1000033 : Int) ≠ 0 by decide)
      have b4 := Int.emod_lt_of_pos s (show (0 : Int) < 1000033 by decide)
      refine .inl ⟨_, _, hS1, rfl, .inl ⟨by decide, by decide⟩, ?_⟩
      refine ⟨pow_ok (by omega) (by omega) (by decide) (by decide), by decide, ?_⟩
      refine ⟨wide_div (by decide) (b := 14) (by decide) (by decide) (by decide), h1, ?_⟩
      exact k _ g (n + 1) (Int.emod_nonneg _ (by omega)) (Int.emod_lt_of_pos _ h1) h3 (by omega) (by omega)
def spDice (K : PySem.W.Frag) : Sp := fun vs H Q _ => ∃ (a : Addr) (ns : List Int) (at' : Nat), vs = [.ref a, .int at'] ∧ SqL K H a (ns.map V.int) ∧ ns.length ≤ 63 ∧ at' < 64 ∧
  ∀ (H' : Hp) (p : Addr) (g s : Int), Same H H' → H p = none → H' p = some (.lst [.int g, .int s, .int 0]) → 0 ≤ g → 0 ≤ s → s < 2 ^ 61 → Q (.ref p) H'
theorem ok_dice {f : Addr} {fd : FuncData} (F : Fun K "_law_dice" "_law_dice" s_law_dice f fd) (T : Txt mg) : FnG P w K mg base CX0 1 f fd ["script", "at"] (spDice K) := by
  have nd := sc_law_dice.nd
  refine okG F sc_law_dice (fun vs H Q E h => ?_) (fun cdv A outer s H vs Q E hr h => ?_)
  · obtain ⟨a, ns, at', rfl, _⟩ := h
    rfl
  · obtain ⟨a, ns, at', rfl, hS, hlen, hat, k⟩ := h
    refine ⟨_, (pss_cut (ps_set (i := 2) nd rfl (Or.inl rfl) (pe_ifExp (pt_cmpA op_ltA (av 1) (pe_callB call_lenA (by rfl) T.len PySem.boot_len (pa_cons (av 0) pa_nil))) (pe_ixA (av 0) (av 1)) (pe_op op_addA (pe_op op_mulA pe_int (av 1)) pe_int)))
      (pss_cons (ps_set (i := 3) nd rfl (Or.inl rfl) (pe_op op_modA (pe_callB call_absA (by rfl) T.abs (by decide +kernel) (pa_cons (av 2) pa_nil)) (pe_op op_powA (pe_op op_powA pe_int pe_int) pe_int)))
      (pss_cons (ps_set (i := 4) nd rfl (Or.inl rfl) (pe_op op_addA (pe_op op_addA (pe_op op_addA (pe_op op_modA (av 3) pe_int) (pe_op op_mulA pe_int (av 1))) (pe_op op_mulA pe_int (pe_callTy call_intA (by rfl) T.int (by decide +kernel) (pa_cons (pe_cmpA op_ltA (av 2) pe_int) pa_nil)))) pe_int))
      (pss_cons (ps_for PassesOwn.never rfl (pi_enum (by rfl) T.enumerate (pa_cons (av 0) pa_nil)) (pg_tup rfl (pgs_cons (pg_name (i := 5) nd rfl (Or.inl rfl)) (pgs_cons (pg_name (i := 6) nd rfl (Or.inl rfl)) pgs_nil))) (pss_one (ps_if (pt_cmpA (op_neA hr.units64) (av 5) (av 1)) (pss_one (ps_set (i := 4) nd rfl (Or.inl rfl) (pe_op op_modA (pe_op op_addA (pe_op op_addA (pe_op op_mulA pe_int (av 4)) (av 6)) (av 5)) pe_int))) pss_nil)))
      (pss_cons (ps_set (i := 4) nd rfl (Or.inl rfl) (pe_op op_modA (pe_op op_powA (av 4) pe_int) pe_int))
      (pss_one (ps_ret (pe_lst (pa_cons (pe_op op_mulA (pe_op op_fdvA (av 3) (pe_op op_powA pe_int pe_int)) (pe_callTy call_intA (by rfl) T.int (by decide +kernel) (pa_cons (pe_cmpA op_geA (av 3) (pe_op op_powA pe_int pe_int)) pa_nil))) (pa_cons (av 4) (pa_cons pe_int pa_nil))))))))))), ?_⟩
    refine ⟨fun σ H' => ∃ cell : Int, σ = [some (.ref a), some (.int at'), some (.int cell), none, none, none, none] ∧ H' = H, ?_, ?_⟩
    · refine .inl ⟨_, hS, ?_⟩
      refine ite2 (fun hc => ?_) (fun hc => ?_)
      · have hc' : at' < ns.length := by
          have := of_decide_eq_true hc
          rw [List.length_map] at this
          omega
        refine .inl ⟨_, _, hS, atI_nat (by rw [List.getElem?_map, List.getElem?_eq_getElem hc']; rfl), ?_⟩
        exact ⟨_, rfl, rfl⟩
      · exact ⟨.inl ⟨by decide, by decide⟩, _, rfl, rfl⟩
    rintro σ H' ⟨cell, rfl, rfl⟩
    refine ⟨pow_ok (by decide) (by decide) (by decide) (by decide), big_bits, big_pos, ?_⟩
    generalize hG : (if cell < 0 then -cell else cell) % ((10 : Int) ^ Int.toNat 60) ^ Int.toNat 13 = great
    have hg0 : 0 ≤ great := by rw [← hG]; exact Int.emod_nonneg _ (by have := big_pos; omega)
    refine ⟨by decide, .inl ⟨by decide, by decide⟩, .inl ⟨by decide, by decide⟩, ?_⟩
    have m1 := Int.emod_nonneg great (show (2305843009213693907 : Int) ≠ 0 by decide)
    have m2 := Int.emod_lt_of_pos great (show (0 : Int) < 2305843009213693907 by decide)
    have m3 : (0 : Int) ≤ (if decide (cell < 0) = true then 1 else 0) ∧ (if decide (cell < 0) = true then (1 : Int) else 0) ≤ 1 := by split <;> decide
    generalize (if decide (cell < 0) = true then (1 : Int) else 0) = neg at m3
    refine ⟨a, _, rfl, hS, for_enum (K := K) (a := a) (xs := ns.map V.int) (fun i σ H2 => ∃ (seed : Int) (pl ot : Option V), σ = [some (.ref a), some (.int at'), some (.int cell), some (.int great), some (.int seed), pl, ot] ∧ 0 ≤ seed ∧ seed < 2 ^ 62 ∧ Same H' H2) ⟨_, _, _, rfl, by omega, by omega, Same.refl _⟩ (fun i σ H2 _ ⟨_, _, _, _, _, _, s5⟩ => s5.seq hS) ?_ ?_⟩
    · rintro i x Tp σ H2 hi ⟨seed, pl, ot, rfl, h1, h2, s5⟩ hT
      obtain ⟨z, hz, rfl⟩ : ∃ z, ns[i]? = some z ∧ x = V.int z := by
        rw [List.getElem?_map] at hi
        cases e : ns[i]? with
        | none => rw [e] at hi; cases hi
        | some z => rw [e] at hi; exact ⟨z, rfl, (Option.some.inj hi).symm⟩
      refine tup2 ?_
      refine ite2 (fun hc => ?_) (fun hc => ?_)
      · refine ⟨.inl ⟨by decide, by decide⟩, by decide, ?_⟩
        have b1 := Int.emod_nonneg (1000003 * seed + z + i) (show (2305843009213693907 : Int) ≠ 0 by decide)
        have b2 := Int.emod_lt_of_pos (1000003 * seed + z + i) (show (0 : Int) < 2305843009213693907 by decide)
        exact ⟨_, _, _, rfl, b1, by omega, s5.new hT⟩
      · exact ⟨_, _, _, rfl, h1, h2, s5.new hT⟩
    · rintro σ H2 ⟨seed, pl, ot, rfl, h1, h2, s5⟩
      refine ⟨pow_ok (by omega) (by omega) (by decide) (by decide), by decide, ?_⟩
      have b1 := Int.emod_nonneg (seed ^ Int.toNat 3) (show (2305843009213693921 : Int) ≠ 0 by decide)
      have b2 := Int.emod_lt_of_pos (seed ^ Int.toNat 3) (show (0 : Int) < 2305843009213693921 by decide)
      refine ⟨pow_ok (by decide) (by decide) (by decide) (by decide), wide_div (by decide) (b := 60) (by decide) (by decide) (by decide), pow_ok (by decide) (by decide) (by decide) (by decide), .inr (by split <;> decide), (by show 3 ≤ sizeLine; decide), fun p hp => ?_⟩
      refine k _ p _ _ (s5.new hp) (s5.free hp) upd_same ?_ b1 (by omega)
      have q0 : 0 ≤ great / (10 : Int) ^ Int.toNat 18 := Int.ediv_nonneg hg0 (by decide)
      split
      · rw [Int.mul_one]; exact q0
      · rw [Int.mul_zero]; exact Int.le_refl _
end
abbrev Dice (g s n : Int) : HO := .lst [.int g, .int s, .int n]
section
variable {P : Program} {w : World} {K : PySem.W.Frag} {mg : Str → Option Value} {base : Heap}
def spOne : Sp := fun vs H Q _ => ∃ (p l : Addr) (xs : List V) (g s n : Int), vs = [.ref p, .ref l] ∧ H p = some (Dice g s n) ∧ H l = some (.lst xs) ∧ l ≠ p ∧ 0 < xs.length ∧ xs.length < 1000 ∧ 0 ≤ g ∧ 0 ≤ s ∧ s < 2 ^ 61 ∧ 0 ≤ n ∧ n < 2 ^ 30 ∧
  ∀ (i : Nat) (v : V) (g' n' : Int), xs[i]? = some v → 0 ≤ g' → n ≤ n' → n' ≤ n + 1 → Q v (upd H p (Dice g' s n'))
theorem ok_one_of {f : Addr} {fd : FuncData} (F : Fun K "_law_one_of" "_law_one_of" s_law_one_of f fd) (T : Txt mg) (O_law_roll : Own P w K mg base CX0 "_law_roll" 1 ["dice", "total"] spRoll) : FnG P w K mg base CX0 2 f fd ["dice", "items"] spOne := by
  have nd := sc_law_one_of.nd
  refine okG F sc_law_one_of (fun vs H Q E h => ?_) (fun cdv A outer s H vs Q E hr h => ?_)
  · obtain ⟨p, l, xs, g, s, n, rfl, _⟩ := h
    rfl
  · obtain ⟨p, l, xs, g, s, n, rfl, hp, hl, hne, h0, h1, h2, h3, h4, h5, h6, k⟩ := h
    refine ⟨_, (pss_one (ps_ret (pe_ixA (av 1) (pe_own O_law_roll hr (pa_cons (av 0) (pa_cons (pe_callB call_lenA (by rfl) T.len PySem.boot_len (pa_cons (av 1) pa_nil)) pa_nil)) (by decide))))), ?_⟩
    refine .inl ⟨xs, SqL.of hl, ?_⟩
    refine ⟨p, _, g, s, n, rfl, hp, by omega, by omega, h2, h3, h4, h5, h6, fun r g' n' r0 r1 g0 n0 n1 => ?_⟩
    obtain ⟨m, rfl⟩ : ∃ m : Nat, r = (m : Int) := ⟨r.toNat, by omega⟩
    have hi : m < xs.length := by omega
    have hx : xs[m]? = some xs[m] := List.getElem?_eq_getElem hi
    refine .inl ⟨xs, xs[m], SqL.of (by rw [upd_ne hne]; exact hl), atI_nat hx, k _ _ g' n' hx g0 n0 n1⟩
end
end K02

set_option Elab.async false
set_option linter.all false
set_option maxRecDepth 100000
set_option maxHeartbeats 4000000
namespace K02
open PySem L2 PySem.KX
/-- what lies beside p stays -/
def Nxt (p : Addr) (H H' : Hp) : Prop := Same (hide [p] H) (hide [p] H')
theorem Nxt.refl {p : Addr} {H : Hp} : Nxt p H H := Same.refl _
theorem Nxt.trans {p : Addr} {H H' H2 : Hp} (a : Nxt p H H') (b : Nxt p H' H2) : Nxt p H H2 := Same.trans a b
theorem Nxt.of {p : Addr} {H H' : Hp} (s : Same H H') : Nxt p H H' := hide_same s
theorem Nxt.upd {p : Addr} {H : Hp} {o : HO} : Nxt p H (upd H p o) := by
  unfold Nxt
  rw [hide_upd]
  exact Same.refl _
theorem Nxt.same {p : Addr} {H1 H H' : Hp} (n : H1 p = none) (s : Same H1 H) (x : Nxt p H H') : Same H1 H' := fun b o e => by
  have hb : b ∉ [p] := fun z => by
    rw [List.mem_singleton.mp z, n] at e
    cases e
  have h := x b o (by rw [hide_in hb]; exact s _ _ e)
  exact (hide_of h).1
theorem new_ne {p q : Addr} {H : Hp} {o : HO} (e : H p = some o) (n : H q = none) : q ≠ p := fun z => by
  rw [z, e] at n
  cases n
theorem erase_perm {α : Type} : ∀ {l : List α} {i : Nat} (h : i < l.length), (l[i] :: l.eraseIdx i).Perm l
  | [], i, h => absurd h (by simp)
  | x :: r, 0, _ => List.Perm.refl _
  | x :: r, i + 1, h => by
    have h2 : i < r.length := by simpa using h
    show (r[i] :: x :: r.eraseIdx i).Perm (x :: r)
    exact (List.Perm.swap x r[i] _).trans (List.Perm.cons x (erase_perm h2))
abbrev s_law_mixed : Stmt := top 28
theorem sc_law_mixed : FnScope ["dice", "items", "left", "turn"] ["dice", "items"] (defScope s_law_mixed) := ⟨rfl, rfl, rfl, by decide +kernel, rfl, by decide +kernel, by decide +kernel⟩
structure TxtX (mg : Str → Option Value) : Prop where
  list : mg "list" = none
  range : mg "range" = none
  len : mg "len" = none
section
variable {P : Program} {w : World} {K : PySem.W.Frag} {mg : Str → Option Value} {base : Heap}
/-- a new list of the same items in some order; nothing changes but the dice at p -/
def spMix (K : PySem.W.Frag) : Sp := fun vs H Q _ => ∃ (p l : Addr) (xs : List V) (g s n : Int), vs = [.ref p, .ref l] ∧ H p = some (Dice g s n) ∧ (SqL K H l xs ∨ SqT K H l xs) ∧ xs.length ≤ 1000 ∧ 0 ≤ g ∧ 0 ≤ s ∧ s < 2 ^ 61 ∧ 0 ≤ n ∧ n + 1000 < 2 ^ 30 ∧
  ∀ (ys : List V) (q : Addr) (H' : Hp) (g' n' : Int), ys.Perm xs → Nxt p H H' → H' p = some (Dice g' s n') → 0 ≤ g' → n ≤ n' → n' ≤ n + xs.length → H q = none → H' q = some (.lst ys) → Q (.ref q) H'
theorem ok_mixed {f : Addr} {fd : FuncData} (F : Fun K "_law_mixed" "_law_mixed" s_law_mixed f fd) (T : TxtX mg) (O_law_roll : Own P w K mg base CX0 "_law_roll" 1 ["dice", "total"] spRoll) : FnG P w K mg base CX0 2 f fd ["dice", "items"] (spMix K) := by
  have nd := sc_law_mixed.nd
  refine okG F sc_law_mixed (fun vs H Q E h => ?_) (fun cdv A outer s H vs Q E hr h => ?_)
  · obtain ⟨_, _, _, _, _, _, rfl, _⟩ := h
    rfl
  · obtain ⟨p, l, xs, g, s, n, rfl, hp, hl, hn, h0, h1, h2, h3, h4, k⟩ := h
    refine ⟨_, (pss_cons (ps_set (i := 2) nd rfl (Or.inr rfl) (pe_callTy call_listA (by rfl) T.list (by decide +kernel) (pa_cons (av 1) pa_nil)))
      (pss_one (ps_ret (pe_lc (own := [("turn", 3)]) (by rfl) nd (pi_range1 (by rfl) T.range (pa_cons (pe_callB call_lenA (by rfl) T.len PySem.boot_len (pa_cons (av 2) pa_nil)) pa_nil)) (blkOk_by (N := ["dice", "items", "left", "turn"]) (sc := defScope s_law_mixed) (by decide +kernel)) (fun _ _ _ _ _ => (pg_name (i := 3) nd rfl (Or.inl rfl))) (fun _ _ _ _ _ => pts_nil)
        (fun _ _ _ _ _ => (show PE _ _ (tBM K "list" rPopAt (aVar 2) (tCons (tCall spRoll [] E0 (tCons (aVar 0) (tCons (tCB (rLenA K) (tCons (aVar 2) tNil)) tNil))) tNil)) from pe_bm PySem.F.plainAttrs_list PySem.F.slot_list_pop PySem.F.type_list_pop mt_popAt (av 2) (pa_cons (pe_own O_law_roll hr (pa_cons (av 0) (pa_cons (pe_callB call_lenA (by rfl) T.len PySem.boot_len (pa_cons (av 2) pa_nil)) pa_nil)) (by decide)) pa_nil))))))), ?_⟩
    refine ⟨xs, hl, fun L nL => ?_⟩
    have hLp : L ≠ p := fun z => by
      rw [z, hp] at nL
      cases nL
    generalize gL : upd H L (.lst xs) = H1
    have s1 : Same H H1 := by rw [← gL]; exact (Same.refl H).new nL
    have lL : H1 L = some (.lst xs) := (congrFun gL L).symm.trans upd_same
    clear gL
    refine .inl ⟨xs, SqL.of lL, _, rfl, by omega, by omega, fun D hD => ?_⟩
    have hDp : D ≠ p := fun z => by
      rw [z, s1 _ _ hp] at hD
      cases hD
    have hDL : D ≠ L := fun z => by
      rw [z, lL] at hD
      cases hD
    refine lc_range (lo := 0) (n := (xs.length : Int).toNat) (fun i H' => ∃ (acc rest : List V) (g' n' : Int), H' D = some (.lst acc) ∧ H' L = some (.lst rest) ∧ (acc ++ rest).Perm xs ∧ acc.length = i ∧ H' p = some (Dice g' s n') ∧ 0 ≤ g' ∧ n ≤ n' ∧ n' ≤ n + i ∧ ∀ b o, b ≠ p → H b = some o → H' b = some o)
      ⟨[], xs, g, n, upd_same, by rw [upd_ne (Ne.symm hDL)]; exact lL, List.Perm.refl _, rfl, by rw [upd_ne (Ne.symm hDp)]; exact s1 _ _ hp, h0, by omega, by omega, fun b o _ e => ((s1.new hD) b o e)⟩ ?_ ?_
    · rintro i H' hi ⟨acc, rest, g', n', hDa, hLa, hpm, hli, hpa, b1, b2, b3, hk⟩
      have hlen : acc.length + rest.length = xs.length := by rw [← hpm.length_eq, List.length_append]
      refine ⟨rfl, .inl ⟨rfl, rest, SqL.of hLa⟩, .inl ⟨rest, SqL.of hLa, p, rest.length, g', s, n', rfl, hpa, by omega, by omega, b1, h1, h2, by omega, by omega, fun r g2 n2 r0 r1 c0 c1 c2 => ?_⟩⟩
      obtain ⟨m, rfl⟩ : ∃ m : Nat, r = (m : Int) := ⟨r.toNat, by omega⟩
      have hm : m < rest.length := by omega
      obtain ⟨j, e1, e2, e3, _⟩ := atI_get (atI_nat (List.getElem?_eq_getElem hm))
      refine ⟨L, rest, m, j, rest[m], rfl, rfl, by rw [upd_ne hLp]; exact hLa, by omega, by omega, e1, e2, ?_⟩
      · refine ⟨acc, by rw [upd_ne hDL, upd_ne hDp]; exact hDa, by rw [sizeLine_eq]; omega, acc ++ [rest[m]], rest.eraseIdx j, g2, n2, upd_same, by rw [upd_ne (Ne.symm hDL), upd_same], ?_, by simp [hli], by rw [upd_ne (Ne.symm hDp), upd_ne (Ne.symm hLp), upd_same], c0, by omega, by omega, fun b o hb e => ?_⟩
        · rw [List.append_assoc]
          refine (List.Perm.append_left acc ?_).trans hpm
          have e4 : rest[j] = rest[m] := Option.some.inj ((List.getElem?_eq_getElem e3).symm.trans e2)
          show (rest[m] :: rest.eraseIdx j).Perm rest
          rw [← e4]
          exact erase_perm e3
        · rw [upd_ne (fun z => by rw [z] at e; have := s1 _ _ e; rw [hD] at this; cases this), upd_ne (fun z => by rw [z, nL] at e; cases e), upd_ne hb]
          exact hk b o hb e
    · rintro H' ⟨acc, rest, g', n', hDa, hLa, hpm, hli, hpa, b1, b2, b3, hk⟩
      have hlen : acc.length + rest.length = xs.length := by rw [← hpm.length_eq, List.length_append]
      have hr0 : rest = [] := List.length_eq_zero_iff.mp (by omega)
      subst hr0
      rw [List.append_nil] at hpm
      refine k acc D H' g' n' hpm (fun b o e => ?_) hpa b1 b2 (by omega) (s1.free hD) hDa
      obtain ⟨e1, e2⟩ := hide_of e
      rw [hide_in e2]
      exact hk b o (fun z => e2 (by rw [z]; exact List.mem_singleton.mpr rfl)) e1
end
end K02

set_option Elab.async false
set_option linter.all false
set_option maxRecDepth 100000
set_option maxHeartbeats 4000000
namespace K02
open PySem L2 PySem.KX
/-! dice that were rolled at most m times -/
def Dc (p : Addr) (m : Int) (H : Hp) : Prop := ∃ g s n : Int, H p = some (Dice g s n) ∧ 0 ≤ g ∧ 0 ≤ s ∧ s < 2 ^ 61 ∧ 0 ≤ n ∧ n ≤ m
theorem Dc.some {p : Addr} {m : Int} {H : Hp} (h : Dc p m H) : H p ≠ none := by
  obtain ⟨g, s, n, h, _⟩ := h
  rw [h]
  exact fun z => nomatch z
theorem Dc.mono {p : Addr} {m k : Int} {H : Hp} (h : Dc p m H) (l : m ≤ k) : Dc p k H := by
  obtain ⟨g, s, n, h, h1, h2, h3, h4, h5⟩ := h
  exact ⟨g, s, n, h, h1, h2, h3, h4, by omega⟩
theorem Dc.same {p : Addr} {m : Int} {H H' : Hp} (h : Dc p m H) (e : Same H H') : Dc p m H' := by
  obtain ⟨g, s, n, h, r⟩ := h
  exact ⟨g, s, n, e _ _ h, r⟩
theorem Dc.upd {p q : Addr} {m : Int} {H : Hp} {o : HO} (h : Dc p m H) (ne : q ≠ p) : Dc p m (upd H q o) := by
  obtain ⟨g, s, n, h, r⟩ := h
  exact ⟨g, s, n, by rw [upd_ne (Ne.symm ne)]; exact h, r⟩
theorem Dc.ne {p q : Addr} {m : Int} {H : Hp} (h : Dc p m H) (n : H q = none) : q ≠ p := fun z => h.some (z ▸ n)
theorem Dc.pos {p : Addr} {m : Int} {H : Hp} (h : Dc p m H) : 0 ≤ m := by
  obtain ⟨g, s, n, h, h1, h2, h3, h4, h5⟩ := h
  omega
theorem nxt_of {p : Addr} {H H' : Hp} (h : ∀ b o, b ≠ p → H b = some o → H' b = some o) : Nxt p H H' := fun b o e => by
  obtain ⟨e1, e2⟩ := hide_of e
  rw [hide_in e2]
  exact h b o (fun z => e2 (by rw [z]; exact List.mem_singleton.mpr rfl)) e1
theorem Nxt.get {p b : Addr} {H H' : Hp} {o : HO} (h : Nxt p H H') (ne : b ≠ p) (e : H b = some o) : H' b = some o := by
  have hb : b ∉ [p] := fun z => ne (List.mem_singleton.mp z)
  exact (hide_of (h b o (by rw [hide_in hb]; exact e))).1
theorem Nxt.of_eq {p : Addr} {H H' : Hp} (h : ∀ b, b ≠ p → H' b = H b) : Nxt p H H' := nxt_of fun b o hb e => by rw [h b hb]; exact e
theorem Nxt.put {p q : Addr} {H H' : Hp} {o : HO} (h : Nxt p H H') (n : H q = none) : Nxt p H (L2.upd H' q o) := nxt_of fun b u hb e => by
  rw [upd_ne (ne_of_none e n)]
  exact h.get hb e
theorem Nxt.free {p q : Addr} {H H' : Hp} (h : Nxt p H H') (ne : q ≠ p) (n : H' q = none) : H q = none := by
  cases e : H q with
  | none => rfl
  | some o =>
    rw [h.get ne e] at n
    cases n
def spRollD : Sp := fun vs H Q _ => ∃ (p : Addr) (m total : Int), vs = [.ref p, .int total] ∧ Dc p m H ∧ m < 2 ^ 30 ∧ 0 < total ∧ total < 2 ^ 60 ∧
  ∀ (r : Int) (H' : Hp), 0 ≤ r → r < total → Dc p (m + 1) H' → (∀ b, b ≠ p → H' b = H b) → Q (.int r) H'
def spOneD : Sp := fun vs H Q _ => ∃ (p l : Addr) (m : Int) (xs : List V), vs = [.ref p, .ref l] ∧ Dc p m H ∧ H l = some (.lst xs) ∧ m < 2 ^ 30 ∧ l ≠ p ∧ 0 < xs.length ∧ xs.length < 1000 ∧
  ∀ (i : Nat) (v : V) (H' : Hp), xs[i]? = some v → Dc p (m + 1) H' → (∀ b, b ≠ p → H' b = H b) → Q v H'
def spMixD (K : PySem.W.Frag) : Sp := fun vs H Q _ => ∃ (p l : Addr) (m : Int) (xs : List V), vs = [.ref p, .ref l] ∧ Dc p m H ∧ m + 1000 < 2 ^ 30 ∧ (SqL K H l xs ∨ SqT K H l xs) ∧ xs.length ≤ 1000 ∧
  ∀ (ys : List V) (q : Addr) (H' : Hp), ys.Perm xs → Nxt p H H' → Dc p (m + xs.length) H' → H q = none → H' q = some (.lst ys) → Q (.ref q) H'
theorem _root_.L2.FnG.imp {P : Program} {w : World} {K : PySem.W.Frag} {mg : Str → Option Value} {base : Heap} {CX : CXT} {k : Nat} {f : Addr} {fd : FuncData} {ps : List Str} {sp sp' : Sp} (F : FnG P w K mg base CX k f fd ps sp) (h : ∀ vs H Q E, sp' vs H Q E → sp vs H Q E) : FnG P w K mg base CX k f fd ps sp' :=
  ⟨fun vs H Q E q => F.len vs H Q E (h _ _ _ _ q), fun A outer s H args us vs Q E hr e b v q => F.run A outer s H args us vs Q E hr e b v (h _ _ _ _ q)⟩
theorem rollD {vs : List V} {H : Hp} {Q : VK} {E : XK} (h : spRollD vs H Q E) : spRoll vs H Q E := by
  obtain ⟨p, m, total, rfl, ⟨g, s, n, h, g0, s0, s1, n0, n1⟩, h1, h2, h3, k⟩ := h
  exact ⟨p, total, g, s, n, rfl, h, h2, h3, g0, s0, s1, n0, by omega, fun r g' n' r0 r1 c0 c1 c2 => k r _ r0 r1 ⟨g', s, n', upd_same, c0, s0, s1, by omega, by omega⟩ fun b hb => upd_ne hb⟩
theorem oneD {vs : List V} {H : Hp} {Q : VK} {E : XK} (h : spOneD vs H Q E) : spOne vs H Q E := by
  obtain ⟨p, l, m, xs, rfl, ⟨g, s, n, h, g0, s0, s1, n0, n1⟩, hl, h1, ne, h2, h3, k⟩ := h
  exact ⟨p, l, xs, g, s, n, rfl, h, hl, ne, h2, h3, g0, s0, s1, n0, by omega, fun i v g' n' e c0 c1 c2 => k i v _ e ⟨g', s, n', upd_same, c0, s0, s1, by omega, by omega⟩ fun b hb => upd_ne hb⟩
theorem mixD {K : PySem.W.Frag} {vs : List V} {H : Hp} {Q : VK} {E : XK} (h : spMixD K vs H Q E) : spMix K vs H Q E := by
  obtain ⟨p, l, m, xs, rfl, ⟨g, s, n, h, g0, s0, s1, n0, n1⟩, h1, hl, h2, k⟩ := h
  exact ⟨p, l, xs, g, s, n, rfl, h, hl, h2, g0, s0, s1, n0, by omega, fun ys q H' g' n' e1 e2 e3 c0 c1 c2 e4 e5 => k ys q H' e1 e2 ⟨g', s, n', e3, c0, s0, s1, by omega, by omega⟩ e4 e5⟩
end K02

set_option Elab.async false
set_option linter.all false
set_option maxRecDepth 100000
set_option maxHeartbeats 4000000
namespace K02
open PySem L2 PySem.KX
abbrev s_law_words : Stmt := top 29
theorem sc_law_words : FnScope ["dice", "total", "letters", "found", "at", "word", "turn"] ["dice", "total"] (defScope s_law_words) := ⟨rfl, rfl, rfl, by decide +kernel, rfl, by decide +kernel, by decide +kernel⟩
abbrev abc : Str := "abcdefghijklmnopqrstuvwxyz"
theorem abc_at : ∀ j : Fin 26, abc.cps.toList[j.val]? = some (97 + j.val) := by decide +kernel
theorem abc_occ : ∀ j : Fin 26, Builtin.Str.occurrences abc ⟨#[97 + j.val]⟩ 0 abc.length 1 = [j.val] := by decide +kernel
theorem abc_get {m : Nat} (h : m < 26) : atI abc.cps.toList (m : Int) = some (97 + m) := atI_nat (abc_at ⟨m, h⟩)
theorem inV_str {x : Str} {fs : List Str} : inV (.str x) (fs.map V.str) = decide (x ∈ fs) := by
  unfold inV
  rw [List.any_map]
  by_cases h : x ∈ fs
  · rw [decide_eq_true h]
    exact List.any_eq_true.mpr ⟨x, h, by simp [eqV]⟩
  · rw [decide_eq_false h]
    refine List.any_eq_false.mpr fun y hy e => h ?_
    have e2 : (y == x) = true := e
    have e3 : y = x := by simpa using e2
    rw [← e3]
    exact hy
theorem flat_strs (fs : List Str) : (fs.map V.str).all flatV = true := by
  rw [List.all_map]
  exact List.all_eq_true.mpr fun _ _ => rfl
/-- a word -/
structure WordL (l : List Nat) : Prop where
  one : 1 ≤ l.length
  eight : l.length ≤ 8
  low : l.all lowL = true
theorem WordL.name {l : List Nat} (h : WordL l) : isNameD (.str (wT l)) = true := by
  show ((decide (1 ≤ (wT l).length) && decide ((wT l).length ≤ 8)) && (wT l).cps.toList.all lowC) = true
  rw [wT_len, decide_eq_true h.one, decide_eq_true h.eight]
  show (l.toArray.toList).all lowC = true
  rw [show l.toArray.toList = l from by simp]
  exact h.low

theorem cut_to (z : Str) (k : Nat) : cutS z none (some (k : Int)) = wT (z.cps.toList.take k) := by
  unfold cutS
  rw [HT.sIx_none, HT.sIx_nat]
  show (⟨((z.cps.toList.drop 0).take (min k z.length - 0)).toArray⟩ : Str) = _
  have : z.cps.toList.length = z.length := by show _ = z.cps.size; simp
  rw [List.drop_zero, Nat.sub_zero, ← this]
  congr 2
  exact List.take_eq_take_iff.mpr (by omega)
theorem cut_from (z : Str) (k : Nat) : cutS z (some (k : Int)) none = wT (z.cps.toList.drop k) := by
  unfold cutS
  rw [HT.sIx_none, HT.sIx_nat]
  have e : z.cps.toList.length = z.length := by show _ = z.cps.size; simp
  show (⟨((z.cps.toList.drop (min k z.length)).take (z.length - min k z.length)).toArray⟩ : Str) = _
  rw [← e, List.take_of_length_le (by simp)]
  by_cases h : k ≤ z.cps.toList.length
  · rw [Nat.min_eq_left h]
  · rw [Nat.min_eq_right (by omega), List.drop_length, List.drop_of_length_le (by omega)]
abbrev WordS (x : Str) : Prop := WordL x.cps.toList
theorem wordS_of {l : List Nat} (h : WordL l) : WordS (wT l) := by
  show WordL (l.toArray.toList)
  simpa using h
theorem WordS.name {x : Str} (h : WordS x) : isNameD (.str x) = true := by
  have := WordL.name h
  rw [← wT_eta x] at this
  exact this
theorem low_ok {l : List Nat} (h : l.all lowL = true) : PyData.strOk (wT l) = true := by
  unfold PyData.strOk
  rw [← Array.all_toList]
  refine List.all_eq_true.mpr fun c hc => ?_
  have := lowL_iff.mp (List.all_eq_true.mp h c (by simpa using hc))
  exact decide_eq_true (by omega)
theorem strs_lay : ∀ fs : List Str, (∀ x ∈ fs, WordS x) → PyData.canLayAll0 (fs.map PyData.str) = true
  | [], _ => by simp [PyData.canLayAll0]
  | x :: r, h => by
    have h1 := low_ok (h x List.mem_cons_self).low
    rw [← wT_eta x] at h1
    simp only [List.map_cons, PyData.canLayAll0, PyData.canLay0, strs_lay r fun y hy => h y (List.mem_cons_of_mem _ hy), Bool.and_true]
    exact h1
theorem strs_depth : ∀ fs : List Str, PyData.depthAll (fs.map PyData.str) = 0
  | [] => by simp [PyData.depthAll]
  | x :: r => by simp [PyData.depthAll, PyData.depth, strs_depth r]
theorem dq_strs {K : PySem.W.Frag} {H : Hp} : ∀ fs : List Str, DqAll K H (fs.map V.str) (fs.map PyData.str)
  | [] => .nil
  | x :: r => .cons (.str x) (dq_strs r)
theorem eqv_nil {ds : List PyData} : PyData.eqv (.list ds) (.list []) = decide (ds = []) := by
  cases ds <;> rfl
structure TxtW (mg : Str → Option Value) : Prop where
  range : mg "range" = none
theorem eqx_trans {p : Addr} {H H' H2 : Hp} (a : ∀ b, b ≠ p → H' b = H b) (c : ∀ b, b ≠ p → H2 b = H' b) : ∀ b, b ≠ p → H2 b = H b := fun b hb => (c b hb).trans (a b hb)
/-- the words that are tried at last -/
def qw (t : Nat) : List Nat := [113, 97 + t / 26 % 26, 97 + t % 26]
theorem qw_word (t : Nat) : WordL (qw t) := by
  have h1 : t / 26 % 26 < 26 := Nat.mod_lt _ (by decide)
  have h2 : t % 26 < 26 := Nat.mod_lt _ (by decide)
  refine ⟨by simp [qw], by simp [qw], List.all_eq_true.mpr fun c hc => lowL_iff.mpr ?_⟩
  simp only [qw, List.mem_cons, List.not_mem_nil, or_false] at hc
  rcases hc with rfl | rfl | rfl <;> omega
/-- after t tries: cur is free, or it is the last one tried, and all before it stand in fs -/
def TryQ (fs : List Str) (t : Nat) (cur : List Nat) : Prop := wT cur ∉ fs ∨ ((∀ j, j + 1 < t → wT (qw j) ∈ fs) ∧ (0 < t → cur = qw (t - 1)))
theorem TryQ.start {fs : List Str} {l : List Nat} : TryQ fs 0 l := .inr ⟨fun j h => absurd h (Nat.not_lt_zero _), fun h => absurd h (Nat.lt_irrefl _)⟩
theorem TryQ.free {fs : List Str} {t : Nat} {l : List Nat} (n : wT l ∉ fs) : TryQ fs (t + 1) l := .inl n
theorem TryQ.on {fs : List Str} {t : Nat} {l : List Nat} (h : TryQ fs t l) (y : wT l ∈ fs) : TryQ fs (t + 1) (qw t) := by
  rcases h with h | ⟨h1, h2⟩
  · exact absurd y h
  · refine .inr ⟨fun j hj => ?_, fun _ => rfl⟩
    by_cases e : j + 1 < t
    · exact h1 j e
    · have e2 : j = t - 1 := by omega
      have := h2 (by omega)
      rw [e2, ← this]
      exact y
theorem TryQ.done {fs : List Str} {t : Nat} {l : List Nat} (h : TryQ fs t l) (h1 : fs.length < t) (h2 : t ≤ 600) : wT l ∉ fs := by
  rcases h with h | ⟨h3, h4⟩
  · exact h
  · intro y
    have el := h4 (by omega)
    have hn : ((List.range t).map fun j => wT (qw j)).Nodup := by
      refine List.Pairwise.map _ ?_ (List.nodup_iff_pairwise_ne.mp List.nodup_range |>.imp_of_mem fun {a b} ha hb hab => ?_) (S := fun a b => a ≠ b) (R := fun a b => wT (qw a) ≠ wT (qw b))
      · intro a b h
        exact h
      · intro e
        have e2 := wT_inj e
        have a1 := List.mem_range.mp ha
        have b1 := List.mem_range.mp hb
        simp only [qw, List.cons.injEq, and_true, true_and] at e2
        omega
    have := nodup_le hn fun x hx => by
      obtain ⟨j, hj, rfl⟩ := List.mem_map.mp hx
      have hj := List.mem_range.mp hj
      by_cases e : j + 1 < t
      · exact h3 j e
      · rw [show j = t - 1 by omega, ← el]
        exact y
    simp at this
    omega
section
variable {P : Program} {w : World} {K : PySem.W.Frag} {mg : Str → Option Value} {base : Heap}
/-- total words, no two equal -/
def spWords : Sp := fun vs H Q _ => ∃ (p : Addr) (m : Int) (total : Nat), vs = [.ref p, .int (total : Nat)] ∧ Dc p m H ∧ total ≤ 40 ∧ m + 1000 < 2 ^ 30 ∧
  ∀ (fs : List Str) (q : Addr) (H' : Hp), fs.length = total → fs.Nodup → (∀ x ∈ fs, WordS x) → Nxt p H H' → Dc p (m + 400) H' → H q = none → H' q = some (.lst (fs.map V.str)) → Q (.ref q) H'
theorem ok_words {f : Addr} {fd : FuncData} (F : Fun K "_law_words" "_law_words" s_law_words f fd) (T : TxtW mg) (O_law_roll : Own P w K mg base CX0 "_law_roll" 1 ["dice", "total"] spRollD) : FnG P w K mg base CX0 2 f fd ["dice", "total"] spWords := by
  have nd := sc_law_words.nd
  refine okG F sc_law_words (fun vs H Q E h => ?_) (fun cdv A outer s H vs Q E hr h => ?_)
  · obtain ⟨_, _, _, rfl, _⟩ := h
    rfl
  · obtain ⟨p, m, total, rfl, hp, ht, hm, k⟩ := h
    refine ⟨_, (pss_cons (ps_par (i := 2) (j := 3) (by rfl) nd rfl rfl (by decide) rfl rfl (pa_cons pe_str (pa_cons (pe_lstS pa_nil) pa_nil)) (by rfl))
      (pss_cons (ps_for PassesOwn.never rfl (pi_range1 (by rfl) T.range (pa_cons (av 1) pa_nil)) (pg_name (i := 4) nd rfl (Or.inl rfl)) (pss_cons (ps_set (i := 5) nd rfl (Or.inl rfl) pe_str)
      (pss_cons (ps_for PassesOwn.never rfl (pi_range1 (by rfl) T.range (pa_cons (pe_ixA (pe_lstS (pa_cons pe_int (pa_cons pe_int (pa_cons pe_int (pa_cons pe_int pa_nil))))) (pe_own O_law_roll hr (pa_cons (av 0) (pa_cons pe_int pa_nil)) (by decide))) pa_nil)) (pg_name (i := 6) nd rfl (Or.inl rfl)) (pss_one (ps_set (i := 5) nd rfl (Or.inl rfl) (pe_op op_addA (av 5) (pe_ixA (av 2) (pe_own O_law_roll hr (pa_cons (av 0) (pa_cons pe_int pa_nil)) (by decide)))))))
      (pss_cut (ps_if (PW.pt (pw_and (pt_cmpA (op_neQ hr.units64) (av 3) (pe_lstS pa_nil)) (pw_and1 (pt_cmpA (op_eqA hr.units64) (pe_own O_law_roll hr (pa_cons (av 0) (pa_cons pe_int pa_nil)) (by decide)) pe_int)))) (pss_one (ps_set (i := 5) nd rfl (Or.inl rfl) (pe_slice sl_str (pe_op op_addA (pe_ixA (av 3) (pe_un un_neg pe_int)) pe_str) po_none (po_some pe_int)))) pss_nil)
      (pss_cons (ps_for PassesOwn.never rfl (pi_range1 (by rfl) T.range (pa_cons (av 1) pa_nil)) (pg_name (i := 6) nd rfl (Or.inl rfl)) (pss_one (ps_if (pt_cmpA op_in_seq (av 5) (av 3)) (pss_one (ps_set (i := 5) nd rfl (Or.inl rfl) (pe_op op_addA (pe_ixA (av 2) (pe_op op_modA (pe_op op_addA (pe_bm PySem.F.plainAttrs_str PySem.F.slot_str_index PySem.F.type_str_index mt_sindex (av 2) (pa_cons (pe_ixA (av 5) pe_int) pa_nil)) pe_int) pe_int)) (pe_slice sl_str (av 5) (po_some pe_int) po_none)))) pss_nil)))
      (pss_cons (ps_for PassesOwn.never rfl (pi_range1 (by rfl) T.range (pa_cons (av 1) pa_nil)) (pg_name (i := 6) nd rfl (Or.inl rfl)) (pss_one (ps_if (pt_cmpA op_in_seq (av 5) (av 3)) (pss_one (ps_set (i := 5) nd rfl (Or.inl rfl) (pe_op op_addA (pe_op op_addA pe_str (pe_ixA (av 2) (pe_op op_modA (pe_op op_fdvA (av 6) pe_int) pe_int))) (pe_ixA (av 2) (pe_op op_modA (av 6) pe_int))))) pss_nil)))
      (pss_one (ps_expr (pe_bm PySem.F.plainAttrs_list PySem.F.slot_list_append PySem.F.type_list_append mt_append (av 3) (pa_cons (av 5) pa_nil))))))))))
      (pss_one (ps_ret (av 3))))), ?_⟩
    refine ⟨by simp, fun q H1 s1 n1 l1 => ?_⟩
    have hqp : q ≠ p := hp.ne n1
    refine ⟨_, _, rfl, ?_⟩
    refine ⟨_, rfl, by omega, by omega, for_range (lo := 0) (n := ((total : Nat) : Int).toNat) (fun i σ H' => ∃ (fs : List Str) (o4 o5 o6 : Option V), σ = [some (.ref p), some (.int (total : Nat)), some (.str abc), some (.ref q), o4, o5, o6] ∧ H' q = some (.lst (fs.map V.str)) ∧ fs.length = i ∧ fs.Nodup ∧ (∀ x ∈ fs, WordS x) ∧ Nxt p H H' ∧ Dc p (m + 10 * i) H')
      ⟨[], _, _, _, rfl, l1, rfl, List.nodup_nil, (fun x hx => nomatch hx), Nxt.of s1, (hp.same s1).mono (by omega)⟩ ?_ ?_⟩
    · rintro i σ H2 hi ⟨fs, o4, o5, o6, rfl, hq, hl, hnd, hw, nx, dc⟩
      have hit : i < total := by omega
      refine ⟨by simp, fun p3 H3 s3 n3 l3 => ?_⟩
      refine ⟨p, _, _, rfl, dc.same s3, by omega, by decide, by decide, fun r H4 r0 r1 dc4 e4 => ?_⟩
      have hp3 : p3 ≠ p := dc.ne n3
      have l3' : H4 p3 = some (.lst [.int 1, .int 2, .int 3, .int 8]) := (e4 p3 hp3).trans l3
      have nx4 : Nxt p H2 H4 := (Nxt.of s3).trans (Nxt.of_eq e4)
      obtain ⟨j, rfl⟩ : ∃ j : Nat, r = (j : Int) := ⟨r.toNat, by omega⟩
      have hj : j < 4 := by omega
      obtain ⟨n, hn, hn1, hn8⟩ : ∃ n : Nat, ([V.int 1, V.int 2, V.int 3, V.int 8] : List V)[j]? = some (V.int n) ∧ 1 ≤ n ∧ n ≤ 8 := by
        match j, hj with
        | 0, _ => exact ⟨1, rfl, by decide, by decide⟩
        | 1, _ => exact ⟨2, rfl, by decide, by decide⟩
        | 2, _ => exact ⟨3, rfl, by decide, by decide⟩
        | 3, _ => exact ⟨8, rfl, by decide, by decide⟩
      refine .inl ⟨_, .int n, SqL.of l3', atI_nat hn, ?_⟩
      refine ⟨_, rfl, by omega, by omega, for_range (lo := 0) (n := ((n : Nat) : Int).toNat) (fun t σ H' => ∃ (l : List Nat) (o6 : Option V), σ = [some (.ref p), some (.int (total : Nat)), some (.str abc), some (.ref q), some (.int (0 + i)), some (.str (wT l)), o6] ∧ l.length = t ∧ l.all lowL = true ∧ Nxt p H2 H' ∧ Dc p (m + 10 * i + 1 + t) H')
        ⟨[], _, rfl, rfl, rfl, nx4, dc4.mono (by omega)⟩ ?_ ?_⟩
      · rintro t σ H5 hti ⟨l, o6, rfl, hll, hlow, nx5, dc5⟩
        refine ⟨p, _, _, rfl, dc5, by omega, by decide, by decide, fun r2 H6 r20 r21 dc6 e6 => ?_⟩
        obtain ⟨c, rfl⟩ : ∃ c : Nat, r2 = (c : Int) := ⟨r2.toNat, by omega⟩
        have hc : c < 26 := by omega
        refine ⟨97 + c, by decide +kernel, abc_get hc, ?_⟩
        refine ⟨small_size (by rw [wT_len]; show l.length + 1 ≤ 1000000; omega), ?_⟩
        refine ⟨l ++ [97 + c], some (.int (0 + (t : Int))), ?_, by simp [hll], by rw [List.all_append, hlow]; simp; omega, nx5.trans (Nxt.of_eq e6), dc6.mono (by omega)⟩
        rw [← wT_app]
        rfl
      · rintro σ H5 ⟨l, o6, rfl, hll, hlow, nx5, dc5⟩
        have hW : WordL l := ⟨by omega, by omega, hlow⟩
        have hq5 : H5 q = some (.lst (fs.map V.str)) := nx5.get hqp hq
        refine ⟨fun σ H' => ∃ (l : List Nat) (o6 : Option V), σ = [some (.ref p), some (.int (total : Nat)), some (.str abc), some (.ref q), some (.int (0 + i)), some (.str (wT l)), o6] ∧ WordL l ∧ Nxt p H2 H' ∧ Dc p (m + 10 * i + 10) H', ?_, ?_⟩
        · refine ⟨by simp, fun p6 H6 s6 n6 l6 => ?_⟩
          refine ⟨.list (fs.map .str), .list [], .lst (SqL.of (s6 _ _ hq5)) (dq_strs fs), .lst (SqL.of l6) .nil, ?_, by decide +kernel, ?_⟩
          · unfold SeqAt.shaped
            simp only [PyData.canLay0, strs_lay fs hw, PyData.depth, strs_depth, Bool.and_eq_true, decide_eq_true_eq]
            exact ⟨trivial, by omega⟩
          have nx6 : Nxt p H2 H6 := nx5.trans (Nxt.of s6)
          have dc6 : Dc p (m + 10 * i + 9) H6 := (dc5.same s6).mono (by omega)
          rw [eqv_nil]
          refine ite2 (fun c => ?_) (fun c => ?_)
          · have hne : fs ≠ [] := fun z => by
              subst z
              exact absurd c (by decide)
            refine ⟨p, _, _, rfl, dc6, by omega, by decide, by decide, fun r2 H7 r20 r21 dc7 e7 => ?_⟩
            refine ite2 (fun c2 => ?_) (fun c2 => ?_)
            · have hq7 : H7 q = some (.lst (fs.map V.str)) := (e7 q hqp).trans (s6 _ _ hq5)
              obtain ⟨y, hy⟩ : ∃ y, fs[fs.length - 1]? = some y := ⟨_, List.getElem?_eq_getElem (by have := List.length_pos_iff.mpr hne; omega)⟩
              have hym : y ∈ fs := List.mem_of_getElem? hy
              have hyw := hw y hym
              refine ⟨1, rfl, .inl ⟨_, .str y, SqL.of hq7, ?_, ?_⟩⟩
              · have hpos := List.length_pos_iff.mpr hne
                unfold atI ixN
                rw [if_neg (by decide), List.length_map, if_pos (by omega)]
                show (fs.map V.str)[(-1 + (fs.length : Int)).toNat]? = _
                rw [show (-1 + (fs.length : Int)).toNat = fs.length - 1 by omega, List.getElem?_map, hy]
                rfl
              · have hyl : y.length = y.cps.toList.length := by show y.cps.size = _; simp
                have h8 := hyw.eight
                have h1 := hyw.one
                have hya : y ++ ("a" : Str) = wT (y.cps.toList ++ [97]) := by
                  have e : ("a" : Str) = wT [97] := by decide +kernel
                  rw [e]
                  conv => lhs; rw [wT_eta y]
                  exact wT_app _ _
                refine ⟨small_size (by show y.length + 1 ≤ 1000000; omega), 8, rfl, _, rfl, ?_, ?_⟩
                · rw [hya, wT_len, List.length_append, sizeLine_eq]
                  show y.cps.toList.length + 1 ≤ _
                  omega
                have hcut : cutS (y ++ ("a" : Str)) none (some 8) = wT ((y.cps.toList ++ [97]).take 8) := by
                  rw [hya]
                  have := cut_to (wT (y.cps.toList ++ [97])) 8
                  exact this
                refine ⟨(y.cps.toList ++ [97]).take 8, o6, ?_, ⟨?_, ?_, ?_⟩, nx6.trans (Nxt.of_eq e7), dc7.mono (by omega)⟩
                · rw [← hcut]
                  rfl
                · rw [List.length_take, List.length_append, List.length_singleton]
                  omega
                · rw [List.length_take]
                  omega
                · refine List.all_eq_true.mpr fun c hc => ?_
                  rcases List.mem_append.mp (List.mem_of_mem_take hc) with z | z
                  · exact List.all_eq_true.mp hyw.low c z
                  · rw [List.mem_singleton.mp z]
                    decide
            · exact ⟨l, _, rfl, hW, nx6.trans (Nxt.of_eq e7), dc7.mono (by omega)⟩
          · exact ⟨l, _, rfl, hW, nx6, dc6.mono (by omega)⟩
        · rintro σ H6 ⟨l, o6, rfl, hW, nx6, dc6⟩
          have hq6 : H6 q = some (.lst (fs.map V.str)) := nx6.get hqp hq
          obtain ⟨c0, r, rfl⟩ : ∃ c0 r, l = c0 :: r := by
            match l, hW.one with
            | c0 :: r, _ => exact ⟨c0, r, rfl⟩
          have hlow := hW.low
          rw [List.all_cons, Bool.and_eq_true] at hlow
          obtain ⟨hc0, hr0⟩ := hlow
          have hlen := hW.eight
          rw [List.length_cons] at hlen
          refine ⟨_, rfl, by omega, by omega, for_range (lo := 0) (n := ((total : Nat) : Int).toNat) (fun t σ H' => ∃ (d : Nat) (o6 : Option V), σ = [some (.ref p), some (.int (total : Nat)), some (.str abc), some (.ref q), some (.int (0 + i)), some (.str (wT (d :: r))), o6] ∧ lowL d = true ∧ H' = H6)
            ⟨c0, _, rfl, hc0, rfl⟩ ?_ ?_⟩
          · rintro t σ H7 hti ⟨d, o6, rfl, hd, rfl⟩
            refine ⟨q, _, rfl, .inl (SqL.of hq6), rfl, flat_strs fs, ?_⟩
            rw [if_neg (by decide), inV_str]
            refine ite2 (fun c => ?_) (fun c => ?_)
            · have hin : wT (d :: r) ∈ fs := of_decide_eq_true c
              have hd' := lowL_iff.mp hd
              obtain ⟨j, hj, rfl⟩ : ∃ j : Nat, j < 26 ∧ d = 97 + j := ⟨d - 97, by omega, by omega⟩
              refine ⟨rfl, 97 + j, ?_, ?_, abc, ⟨#[97 + j]⟩, j, [], rfl, rfl, abc_occ ⟨j, hj⟩, ?_⟩
              · rw [wT_len, sizeLine_eq]
                simp only [List.length_cons]
                omega
              · exact atI_nat (j := 0) (xs := (97 + j) :: r) (v := 97 + j) rfl
              have e3 : onC (97 + j) 1 = 97 + (j + 1) % 26 := by
                unfold onC
                rw [show 97 + j - 97 + 1 = j + 1 by omega]
              have hlw : (wT ((97 + j) :: r)).length ≤ sizeLine := by
                rw [wT_len, sizeLine_eq]
                simp only [List.length_cons]
                omega
              have hm26 : (j + 1) % 26 < 26 := Nat.mod_lt _ (by decide)
              refine ⟨by decide, 97 + (j + 1) % 26, by decide +kernel, abc_get hm26, 1, rfl, _, rfl, hlw, ?_⟩
              have hcut : cutS (wT ((97 + j) :: r)) (some 1) none = wT r := cut_from (wT ((97 + j) :: r)) 1
              rw [hcut]
              refine ⟨small_size (by rw [wT_len]; show 1 + r.length ≤ 1000000; omega), ?_⟩
              refine ⟨onC (97 + j) 1, some (.int (0 + (t : Int))), ?_, lowL_iff.mpr (onC_low _ _), rfl⟩
              rw [e3, show (97 + (j + 1) % 26) :: r = [97 + (j + 1) % 26] ++ r from rfl, ← wT_app]
              rfl
            · exact ⟨d, _, rfl, hd, rfl⟩
          · rintro σ H7 ⟨d, o6, rfl, hd, rfl⟩
            have hWd : WordL (d :: r) := ⟨by simp, by simp only [List.length_cons]; omega, by rw [List.all_cons, hd, hr0]; rfl⟩
            refine ⟨_, rfl, by omega, by omega, for_range (lo := 0) (n := ((total : Nat) : Int).toNat) (fun t σ H' => ∃ (cur : List Nat) (o6 : Option V), σ = [some (.ref p), some (.int (total : Nat)), some (.str abc), some (.ref q), some (.int (0 + i)), some (.str (wT cur)), o6] ∧ WordL cur ∧ TryQ fs t cur ∧ H' = H7)
              ⟨d :: r, _, rfl, hWd, TryQ.start, rfl⟩ ?_ ?_⟩
            · rintro t σ H8 hti ⟨cur, o6, rfl, hWc, htq, rfl⟩
              refine ⟨q, _, rfl, .inl (SqL.of hq6), rfl, flat_strs fs, ?_⟩
              rw [if_neg (by decide), inV_str]
              refine ite2 (fun c => ?_) (fun c => ⟨cur, _, rfl, hWc, TryQ.free fun z => c (decide_eq_true z), rfl⟩)
              have hin : wT cur ∈ fs := of_decide_eq_true c
              have i1 : (0 + (t : Int)) / 26 % 26 = ((t / 26 % 26 : Nat) : Int) := by omega
              have i2 : (0 + (t : Int)) % 26 = ((t % 26 : Nat) : Int) := by omega
              have b1 : t / 26 % 26 < 26 := Nat.mod_lt _ (by decide)
              have b2 : t % 26 < 26 := Nat.mod_lt _ (by decide)
              have eq0 : ("q" : Str) = wT [113] := by decide +kernel
              refine ⟨⟨by decide, by decide +kernel⟩, by decide, 97 + t / 26 % 26, by decide +kernel, by rw [i1]; exact abc_get b1, ?_⟩
              refine ⟨small_size (show 1 + 1 ≤ 1000000 by decide), by decide, 97 + t % 26, by decide +kernel, by rw [i2]; exact abc_get b2, ?_⟩
              refine ⟨?_, qw t, some (.int (0 + (t : Int))), ?_, qw_word t, htq.on hin, rfl⟩
              · exact small_size (show 1 + 1 + 1 ≤ 1000000 by decide)
              · rw [show wT (qw t) = ("q" : Str) ++ wT [97 + t / 26 % 26] ++ wT [97 + t % 26] by rw [eq0, wT_app, wT_app]; rfl]
                rfl
            · rintro σ H8 ⟨cur, o6, rfl, hWc, htq, rfl⟩
              have hfree : wT cur ∉ fs := htq.done (by omega) (by omega)
              refine ⟨.inl ⟨rfl, _, SqL.of hq6⟩, q, _, _, rfl, rfl, hq6, by rw [List.length_map, sizeLine_eq]; omega, ?_⟩
              refine ⟨fs ++ [wT cur], _, _, _, rfl, by rw [upd_same, List.map_append]; rfl, by rw [List.length_append, hl]; rfl, ?_, ?_, ?_, ?_⟩
              · refine List.nodup_append.mpr ⟨hnd, by simp, fun x hx y hy => ?_⟩
                rw [List.mem_singleton.mp hy]
                intro z
                exact hfree (z ▸ hx)
              · intro x hx
                rcases List.mem_append.mp hx with z | z
                · exact hw x z
                · rw [List.mem_singleton.mp z]
                  exact wordS_of hWc
              · exact (nx.trans nx6).put n1
              · exact (dc6.upd hqp).mono (by omega)
    · rintro σ H2 ⟨fs, o4, o5, o6, rfl, hq, hl, hnd, hw, nx, dc⟩
      exact k fs q H2 (by omega) hnd hw nx (dc.mono (by omega)) n1 hq
end
end K02

set_option Elab.async false
set_option linter.all false
set_option maxRecDepth 100000
set_option maxHeartbeats 4000000
namespace K02
open PySem L2 PySem.KX
theorem ints_lay : ∀ ns : List Int, PyData.canLayAll0 (ns.map PyData.int) = true
  | [] => by simp [PyData.canLayAll0]
  | n :: r => by simp only [List.map_cons, PyData.canLayAll0, PyData.canLay0, ints_lay r, Bool.and_self]
theorem ints_depth : ∀ ns : List Int, PyData.depthAll (ns.map PyData.int) = 0
  | [] => by simp [PyData.depthAll]
  | n :: r => by simp [PyData.depthAll, PyData.depth, ints_depth r]
theorem ints_shaped (ns : List Int) : SeqAt.shaped (.list (ns.map PyData.int)) = true := by
  unfold SeqAt.shaped
  simp only [PyData.canLay0, ints_lay, PyData.depth, ints_depth, Bool.and_eq_true, decide_eq_true_eq]
  exact ⟨trivial, by omega⟩
theorem strs_shaped {xs : List Str} (h : ∀ x ∈ xs, WordS x) : SeqAt.shaped (.list (xs.map PyData.str)) = true := by
  unfold SeqAt.shaped
  simp only [PyData.canLay0, strs_lay xs h, PyData.depth, strs_depth, Bool.and_eq_true, decide_eq_true_eq]
  exact ⟨trivial, by omega⟩
theorem name_word {x : Str} (h : isNameD (.str x) = true) : WordS x := by
  have h' : ((decide (1 ≤ x.length) && decide (x.length ≤ 8)) && x.cps.toList.all lowC) = true := h
  simp only [Bool.and_eq_true, decide_eq_true_eq] at h'
  have hxl : x.cps.toList.length = x.length := by show _ = x.cps.size; simp
  exact ⟨by omega, by omega, h'.2⟩
/-- a part that is not () and holds places, ascending -/
def partD (n : Int) (d : PyData) : Bool := !isNilD d && placesD n d
theorem step_parts {n : Int} {a b c : PyData} : stepD n (.tuple [a, b, c]) = (isNameD a && (partD n b && partD n c)) := by
  show (isNameD a && (!isNilD b && (!isNilD c && (placesD n b && placesD n c)))) = _
  unfold partD
  cases isNameD a <;> cases isNilD b <;> cases isNilD c <;> cases placesD n b <;> cases placesD n c <;> rfl
def nameOf : PyData → Str
  | .tuple (.str x :: _) => x
  | _ => ⟨#[]⟩
section
variable {P : Program} {w : World} {K : PySem.W.Frag} {mg : Str → Option Value} {base : Heap}
end
end K02

set_option Elab.async false
set_option linter.all false
set_option maxRecDepth 100000
set_option maxHeartbeats 4000000
namespace K02
open PySem L2 PySem.KX StX
open PySem.W (AllAlike Sortable dataLe EachIs alike alikeAll dataLt)
/-! rows of nets -/
abbrev RowN := Str × List Int × List Int
def rowD (r : RowN) : PyData := .tuple [.str r.1, tupI r.2.1, tupI r.2.2]
def netOf (n : Int) (rows : List RowN) : PyData := .tuple [.int n, .tuple (rows.map rowD)]
abbrev ltR (a b : RowN) : Prop := ltT a.1 b.1
theorem ltR_irr (a : RowN) : ¬ ltR a a := ltT_irr _
theorem ltR_tr (a b c : RowN) (h : ltR a b) (k : ltR b c) : ltR a c := ltT_tr _ _ _ h k
theorem dataLt_rows {a b : RowN} (h : a.1 ≠ b.1) : dataLt (rowD a) (rowD b) = decide (ltT a.1 b.1) := by
  show dataLt (.tuple _) (.tuple _) = _
  have hal : alike (PyData.str a.1) (.str b.1) = true := by simp [alike]
  rw [PySem.W.dataLt_tuple, PySem.W.dataLt_cons hal, if_neg (by show ¬ (a.1 == b.1) = true; simpa using h)]
  have e := congrFun (congrFun (PySem.W.dataLe_str (β := Str) id) b.1) a.1
  rw [PySem.W.dataLe_eq] at e
  have e' : (!dataLt (.str a.1) (.str b.1)) = decide (b.1.cps.toList ≤ a.1.cps.toList) := e
  have e2 : decide (b.1.cps.toList ≤ a.1.cps.toList) = !decide (ltT a.1 b.1) := by
    by_cases c : ltT a.1 b.1
    · rw [decide_eq_true c, decide_eq_false (fun z => z c)]
      rfl
    · rw [decide_eq_false c, decide_eq_true (show b.1.cps.toList ≤ a.1.cps.toList from c)]
      rfl
  rw [e2] at e'
  simpa using e'
def leR (a b : RowN) : Bool := !decide (ltT b.1 a.1)
theorem leR_eq {raw : List RowN} (nd : (raw.map (·.1)).Nodup) : ∀ a ∈ raw, ∀ b ∈ raw, leR a b = dataLe false id (rowD a) (rowD b) := fun a ha b hb => by
  rw [PySem.W.dataLe_eq]
  show _ = !dataLt (rowD b) (rowD a)
  by_cases e : a.1 = b.1
  · have : a = b := by
      have inj : ∀ (l : List RowN), (l.map (·.1)).Nodup → a ∈ l → b ∈ l → a = b := by
        intro l
        induction l with
        | nil => intro _ h; exact nomatch h
        | cons x r ih =>
          intro n h1 h2
          rw [List.map_cons] at n
          obtain ⟨n1, n2⟩ := List.nodup_cons.mp n
          rcases List.mem_cons.mp h1 with z | z <;> rcases List.mem_cons.mp h2 with y | y
          · rw [z, y]
          · exact absurd (List.mem_map.mpr ⟨b, y, by rw [← e, z]⟩) n1
          · exact absurd (List.mem_map.mpr ⟨a, z, by rw [e, y]⟩) n1
          · exact ih n2 z y
      exact inj raw nd ha hb
    subst this
    rw [PySem.W.dataLt_self]
    unfold leR
    rw [decide_eq_false (ltT_irr _)]
  · rw [dataLt_rows (Ne.symm e)]
    rfl
/-- rows with distinct names, sorted -/
theorem sort_rows {raw : List RowN} (nd : (raw.map (·.1)).Nodup) : ∃ rows : List RowN, rows.Perm raw ∧ rows.Pairwise ltR ∧ (raw.map rowD).mergeSort (dataLe false id) = rows.map rowD := by
  have e1 := List.map_mergeSort (r := leR) (s := dataLe false id) (f := rowD) (l := raw) (leR_eq nd)
  refine ⟨raw.mergeSort leR, List.mergeSort_perm _ _, ?_, e1.symm⟩
  have tr : ∀ a b c : RowN, leR a b = true → leR b c = true → leR a c = true := fun a b c h1 h2 => by
    unfold leR at h1 h2 ⊢
    rw [Bool.not_eq_true', decide_eq_false_iff_not] at h1 h2 ⊢
    intro h3
    have k1 : a.1.cps.toList ≤ b.1.cps.toList := h1
    have k2 : b.1.cps.toList ≤ c.1.cps.toList := h2
    exact (List.le_trans k1 k2) h3
  have tot : ∀ a b : RowN, (leR a b || leR b a) = true := fun a b => by
    unfold leR
    by_cases c : ltT b.1 a.1
    · have : ¬ ltT a.1 b.1 := fun z => ltT_irr _ (ltT_tr _ _ _ c z)
      rw [decide_eq_false this]
      simp
    · rw [decide_eq_false c]
      rfl
  have pw := List.pairwise_mergeSort tr tot raw
  have nd2 : ((raw.mergeSort leR).map (·.1)).Nodup := ((List.mergeSort_perm raw leR).map _).nodup_iff.mpr nd
  generalize raw.mergeSort leR = l at pw nd2
  clear e1 tr tot
  induction l with
  | nil => exact List.Pairwise.nil
  | cons x r ih =>
    obtain ⟨p1, p2⟩ := List.pairwise_cons.mp pw
    rw [List.map_cons] at nd2
    obtain ⟨n1, n2⟩ := List.nodup_cons.mp nd2
    refine List.pairwise_cons.mpr ⟨fun y hy => ?_, ih p2 n2⟩
    have h := p1 y hy
    unfold leR at h
    rw [Bool.not_eq_true', decide_eq_false_iff_not] at h
    exact ltT_tri h fun e => n1 (List.mem_map.mpr ⟨y, hy, e.symm⟩)
theorem rows_eq {as bs : List RowN} (h1 : as.Pairwise ltR) (h2 : bs.Pairwise ltR) (h : as.Perm bs) : as = bs := asc_eq ltR_irr ltR_tr h1 h2 fun k => h.mem_iff
theorem rows_names {as : List RowN} (h : as.Pairwise ltR) : (as.map (·.1)).Nodup := by
  refine List.Pairwise.map _ (fun a b (z : ltR a b) => ?_) h
  intro e
  have z' : ltT a.1 b.1 := z
  rw [e] at z'
  exact ltT_irr _ z'
/-- a side of a step -/
structure GoodI (n : Int) (l : List Int) : Prop where
  ne : l ≠ []
  asc : l.Pairwise (· < ·)
  inn : ∀ k ∈ l, 0 ≤ k ∧ k < n
theorem GoodI.few {n : Int} {l : List Int} (h : GoodI n l) (hn : n ≤ 30) : l.length ≤ 30 := by
  have nd : l.Nodup := h.asc.imp fun {a b} hab e => absurd hab (by rw [e]; exact Int.lt_irrefl _)
  have := nodup_le (m := (List.range 30).map fun i : Nat => (i : Int)) nd fun x hx => by
    obtain ⟨h0, h1⟩ := h.inn x hx
    exact List.mem_map.mpr ⟨x.toNat, List.mem_range.mpr (by omega), by omega⟩
  simpa using this
structure GoodR (n : Int) (r : RowN) : Prop where
  w : WordS r.1
  i : GoodI n r.2.1
  o : GoodI n r.2.2
structure GoodN (n : Int) (rows : List RowN) : Prop where
  lo : 2 ≤ n
  hi : n ≤ 30
  one : 1 ≤ rows.length
  few : rows.length ≤ 40
  row : ∀ r ∈ rows, GoodR n r
  asc : rows.Pairwise ltR
theorem part_good {n : Int} {l : List Int} (h : GoodI n l) : partD n (tupI l) = true := by
  unfold partD
  have h1 : isNilD (tupI l) = false := by
    cases l with
    | nil => exact absurd rfl h.ne
    | cons x r => rfl
  rw [h1]
  show (!false && ((l.map PyData.int).all (intIn 0 (n - 1)) && ascD (l.map PyData.int))) = true
  rw [(asc_ints l).mpr h.asc]
  have : (l.map PyData.int).all (intIn 0 (n - 1)) = true := by
    rw [List.all_map]
    refine List.all_eq_true.mpr fun k hk => ?_
    obtain ⟨a, b⟩ := h.inn k hk
    show (decide (0 ≤ k) && decide (k ≤ n - 1)) = true
    rw [decide_eq_true a, decide_eq_true (by omega)]
    rfl
  rw [this]
  rfl
theorem net_good {n : Int} {rows : List RowN} (h : GoodN n rows) : netD (netOf n rows) = true := by
  show ((decide (2 ≤ n) && decide (n ≤ 30)) && ((decide (1 ≤ (rows.map rowD).length) && decide ((rows.map rowD).length ≤ 40)) && ((rows.map rowD).all (stepD n) && ascD ((rows.map rowD).map firstD)))) = true
  rw [List.length_map, decide_eq_true h.lo, decide_eq_true h.hi, decide_eq_true h.one, decide_eq_true h.few]
  have h1 : (rows.map rowD).all (stepD n) = true := by
    rw [List.all_map]
    refine List.all_eq_true.mpr fun r hr => ?_
    have g := h.row r hr
    show stepD n (.tuple [.str r.1, tupI r.2.1, tupI r.2.2]) = true
    rw [step_parts, g.w.name, part_good g.i, part_good g.o]
    rfl
  have h2 : (rows.map rowD).map firstD = (rows.map (·.1)).map PyData.str := by
    rw [List.map_map, List.map_map]
    rfl
  rw [h1, h2, (asc_strs _).mpr (List.Pairwise.map _ (fun a b z => z) h.asc)]
  rfl
end K02

set_option Elab.async false
set_option linter.all false
set_option maxRecDepth 100000
set_option maxHeartbeats 4000000
namespace K02
open PySem L2 PySem.KX StX
open PySem.W (AllAlike Sortable dataLe EachIs alike alikeAll)
abbrev s_law_any_net : Stmt := top 37
theorem sc_law_any_net : FnScope ["dice", "total", "places", "rows", "name", "ends", "part", "turn"] ["dice", "total"] (defScope s_law_any_net) := ⟨rfl, rfl, rfl, by decide +kernel, rfl, by decide +kernel, by decide +kernel⟩
/-- the scope of the outer comprehension -/
abbrev scPart : Scope := { kind := ScopeKind.function, names := [(".0", NameKind.local), ("part", NameKind.local), ("range", NameKind.globalImplicit), ("_law_roll", NameKind.globalImplicit), ("dice", NameKind.cell), ("places", NameKind.cell)], isGenerator := false, isCoroutine := false }
/-- drawn places -/
structure RawI (n : Int) (l : List Int) : Prop where
  one : 1 ≤ l.length
  few : l.length ≤ 3
  inn : ∀ k ∈ l, 0 ≤ k ∧ k < n
theorem RawI.tidy {n : Int} {l ms : List Int} (h : RawI n l) (t : Tidy l ms) (hl : ms.length ≤ 3) : GoodI n ms := by
  refine ⟨fun z => ?_, t.asc, fun k hk => h.inn k ((t.mem k).mp hk)⟩
  subst z
  match l, h.one with
  | x :: r, _ => exact nomatch (t.mem x).mpr List.mem_cons_self
theorem row_dq {K : PySem.W.Frag} {H : Hp} {t a b : Addr} {x : Str} {as bs : List Int} (h : H t = some (.tup [.str x, .ref a, .ref b])) (ha : H a = some (.tup (as.map V.int))) (hb : H b = some (.tup (bs.map V.int))) : Dq K H (.ref t) (rowD (x, as, bs)) :=
  .tup (SqT.of h) (.cons (.str x) (.cons (.tup (SqT.of ha) ints_dq) (.cons (.tup (SqT.of hb) ints_dq) .nil)))
theorem dqAll_snoc {K : PySem.W.Frag} {H : Hp} {vs : List V} {ds : List PyData} {v : V} {d : PyData} (h : DqAll K H vs ds) (k : Dq K H v d) : DqAll K H (vs ++ [v]) (ds ++ [d]) := DqAll_snoc h k
theorem alike_r (a b : RowN) : alike (rowD a) (rowD b) = true := alike_rows _ _ _ _ _ _
section
variable {P : Program} {w : World} {K : PySem.W.Frag} {mg : Str → Option Value} {base : Heap}
/-- a drawn net; nothing changes but the dice -/
def spAny (K : PySem.W.Frag) : Sp := fun vs H Q _ => ∃ (p : Addr) (m : Int) (total : Nat), vs = [.ref p, .int (total : Nat)] ∧ Dc p m H ∧ 1 ≤ total ∧ total ≤ 40 ∧ m + 3000 < 2 ^ 30 ∧
  ∀ (n : Int) (rows : List RowN) (v : Addr) (ts : List V) (H' : Hp), GoodN n rows → rows.length = total → Nxt p H H' → Dc p (m + 2000) H' → Dq K (hide [p] H') (.ref v) (netOf n rows) → H' v = some (.tup ts) → Q (.ref v) H'
theorem ok_any_net {f : Addr} {fd : FuncData} (F : Fun K "_law_any_net" "_law_any_net" s_law_any_net f fd) (T : TxtA mg) (S : TxtS mg) (TX : TxtX mg) (O_law_roll : Own P w K mg base CX0 "_law_roll" 1 ["dice", "total"] spRollD) (O_law_words : Own P w K mg base CX0 "_law_words" 2 ["dice", "total"] spWords) :
    FnG P w K mg base CX0 3 f fd ["dice", "total"] (spAny K) := by
  have nd := sc_law_any_net.nd
  refine okG F sc_law_any_net (fun vs H Q E h => ?_) (fun cdv A outer s H vs Q E hr h => ?_)
  · obtain ⟨_, _, _, rfl, _⟩ := h
    rfl
  · obtain ⟨p, m, total, rfl, hp, ht1, ht, hm, k⟩ := h
    refine ⟨_, (pss_cons (ps_set (i := 2) nd rfl (Or.inr rfl) (pe_op op_addA pe_int (pe_own O_law_roll hr (pa_cons (av 0) (pa_cons (pe_ixA (pe_lstS (pa_cons pe_int (pa_cons pe_int (pa_cons pe_int pa_nil)))) (pe_own O_law_roll hr (pa_cons (av 0) (pa_cons pe_int pa_nil)) (by decide))) pa_nil)) (by decide))))
      (pss_cons (ps_set (i := 3) nd rfl (Or.inl rfl) (pe_lstS pa_nil))
      (pss_cons (ps_for PassesOwn.never rfl (pi_list (pe_own O_law_words hr (pa_cons (av 0) (pa_cons (av 1) pa_nil)) (by decide))) (pg_name (i := 4) nd rfl (Or.inl rfl)) (pss_cons (ps_setLc (i := 5) (own := [("part", 6)]) (by rfl) nd rfl rfl (sw_true rfl rfl rfl (by decide +kernel)) (pi_range1 (by rfl) TX.range (pa_cons pe_int pa_nil)) (blkOk_by (N := ["dice", "total", "places", "rows", "name", "ends", "part", "turn"]) (sc := defScope s_law_any_net) (by decide +kernel)) (fun _ _ _ _ _ => (pg_name (i := 6) nd rfl (Or.inl rfl))) (fun _ _ _ _ _ => pts_nil) (fun _ _ _ _ _ => (pe_lc (own := [("turn", 7)]) (by rfl) nd (pi_range1 (by rfl) TX.range (pa_cons (show PE _ _ (tOp (rAddA K) (tC (.int 1)) (tCall spRollD [] E0 (tCons (aVar 0) (tCons (tC (.int 3)) tNil)))) from pe_op op_addA pe_int (pe_own O_law_roll hr (pa_cons (av 0) (pa_cons pe_int pa_nil)) (by decide))) pa_nil)) (blkOk_by (N := ["dice", "total", "places", "rows", "name", "ends", "part", "turn"]) (sc := scPart) (by decide +kernel)) (fun _ _ _ _ _ => (pg_name (i := 7) nd rfl (Or.inl rfl))) (fun _ _ _ _ _ => pts_nil) (fun _ _ _ _ _ => (pe_own O_law_roll hr (pa_cons (av 0) (pa_cons (av 2) pa_nil)) (by decide))))))
      (pss_one (ps_expr (pe_appS (av 3) (pe_tupS (pa_cons (av 4) (pa_cons (pe_callTy call_tupLS (by rfl) T.tuple (by decide +kernel) (pa_cons (pe_callB (call_sortTI rfl) (by rfl) S.sorted (by decide +kernel) (pa_cons (pe_callTy (call_setLI rfl) (by rfl) S.set (by decide +kernel) (pa_cons (pe_ixA (av 5) pe_int) pa_nil)) pa_nil)) pa_nil)) (pa_cons (pe_callTy call_tupLS (by rfl) T.tuple (by decide +kernel) (pa_cons (pe_callB (call_sortTI rfl) (by rfl) S.sorted (by decide +kernel) (pa_cons (pe_callTy (call_setLI rfl) (by rfl) S.set (by decide +kernel) (pa_cons (pe_ixA (av 5) pe_int) pa_nil)) pa_nil)) pa_nil)) pa_nil)))))))))
      (pss_one (ps_ret (pe_tupS (pa_cons (av 2) (pa_cons (pe_callTy call_tupLS (by rfl) T.tuple (by decide +kernel) (pa_cons (pe_callB (call_sortedQ hr.units64) (by rfl) S.sorted (by decide +kernel) (pa_cons (av 3) pa_nil)) pa_nil)) pa_nil)))))))), ?_⟩
    refine ⟨by simp, fun p3 H3 s3 n3 l3 => ?_⟩
    refine ⟨p, _, _, rfl, hp.same s3, by omega, by decide, by decide, fun r H4 r0 r1 dc4 e4 => ?_⟩
    have hp3 : p3 ≠ p := hp.ne n3
    have l4 : H4 p3 = some (.lst [.int 3, .int 6, .int 29]) := (e4 p3 hp3).trans l3
    have nx4 : Nxt p H H4 := (Nxt.of s3).trans (Nxt.of_eq e4)
    obtain ⟨j, rfl⟩ : ∃ j : Nat, r = (j : Int) := ⟨r.toNat, by omega⟩
    have hj : j < 3 := by omega
    obtain ⟨u, hu, hu1, hu8⟩ : ∃ u : Nat, ([V.int 3, V.int 6, V.int 29] : List V)[j]? = some (V.int u) ∧ 1 ≤ u ∧ u ≤ 29 := by
      match j, hj with
      | 0, _ => exact ⟨3, rfl, by decide, by decide⟩
      | 1, _ => exact ⟨6, rfl, by decide, by decide⟩
      | 2, _ => exact ⟨29, rfl, by decide, by decide⟩
    refine .inl ⟨_, .int u, SqL.of l4, atI_nat hu, ?_⟩
    refine ⟨p, _, _, rfl, dc4, by omega, by omega, by omega, fun r2 H5 r20 r21 dc5 e5 => ?_⟩
    have nx5 := nx4.trans (Nxt.of_eq e5)
    refine ⟨by simp, fun R H6 s6 n6 l6 => ?_⟩
    have hRp : R ≠ p := dc5.ne n6
    have nx6 := nx5.trans (Nxt.of s6)
    have nR : H R = none := nx5.free hRp n6
    have dc6 := dc5.same s6
    refine ⟨p, _, total, rfl, dc6, ht, by omega, fun fs W H7 hfl hfn hfw nx7 dc7 nW lW => ?_⟩
    have hWp : W ≠ p := dc6.ne nW
    have nx07 := nx6.trans nx7
    have hR7 : H7 R = some (.lst []) := nx7.get hRp l6
    have hWR : W ≠ R := fun z => by rw [z, l6] at nW; cases nW
    refine ⟨W, rfl, ⟨_, SqL.of lW⟩, ?_⟩
    refine for_list (K := K) (a := W) (xs := fs.map V.str) (fun i σ H' => ∃ (raw : List RowN) (acc : List V) (o4 o5 o6 o7 : Option V), σ = [some (.ref p), some (.int (total : Nat)), some (.int (2 + r2)), some (.ref R), o4, o5, o6, o7] ∧ H' R = some (.lst acc) ∧ DqAll K (hide [R, p] H') acc (raw.map rowD) ∧ raw.map (·.1) = fs.take i ∧ (∀ r ∈ raw, GoodR (2 + r2) r) ∧ (∀ b o, b ≠ p → b ≠ R → H7 b = some o → H' b = some o) ∧ Dc p (m + 402 + 20 * i) H')
      ⟨[], [], _, _, _, _, rfl, hR7, .nil, by simp, (fun r hr => nomatch hr), fun b o _ _ e => e, dc7.mono (by omega)⟩ (fun i σ H' _ ⟨_, _, _, _, _, _, _, _, _, _, _, kp, _⟩ => SqL.of (kp W _ hWp hWR lW)) ?_ ?_
    · rintro i z σ H8 hi ⟨raw, acc, o4, o5, o6, o7, rfl, hR8, hacc, hnm, hgood, kp, dc8⟩
      obtain ⟨x, hx, rfl⟩ : ∃ x, fs[i]? = some x ∧ z = .str x := by
        rw [List.getElem?_map] at hi
        cases e : fs[i]? with
        | none => rw [e] at hi; cases hi
        | some x => rw [e] at hi; exact ⟨x, rfl, (Option.some.inj hi).symm⟩
      have hil : i < fs.length := (List.getElem?_eq_some_iff.mp hx).1
      refine ⟨2, rfl, by decide, by decide, fun D hD => ?_⟩
      have hDp : D ≠ p := dc8.ne hD
      have hDR : D ≠ R := fun z => by rw [z, hR8] at hD; cases hD
      refine lc_range (lo := 0) (n := (2 : Int).toNat) (fun t H' => ∃ ac2 : List V, H' D = some (.lst ac2) ∧ ac2.length = t ∧ (∀ (j : Nat) (v : V), ac2[j]? = some v → ∃ (q : Addr) (ns : List Int), v = .ref q ∧ q ≠ p ∧ q ≠ D ∧ H' q = some (.lst (ns.map V.int)) ∧ RawI (2 + r2) ns) ∧ Nxt p H8 H' ∧ Dc p (m + 402 + 20 * i + 5 * t) H')
        ⟨[], upd_same, rfl, (fun j v e => nomatch e), (Nxt.refl).put hD, (dc8.upd hDp).mono (by omega)⟩ ?_ ?_
      · rintro t H9 htt ⟨ac2, hD9, hl9, hq9, nx9, dc9⟩
        have ht2 : t < 2 := htt
        refine ⟨rfl, ?_⟩
        refine ⟨p, _, _, rfl, dc9, by omega, by decide, by decide, fun r3 H10 r30 r31 dc10 e10 => ?_⟩
        refine ⟨_, rfl, by omega, by omega, fun D2 hD2 => ?_⟩
        have hD2p : D2 ≠ p := dc10.ne hD2
        have nx10 := nx9.trans (Nxt.of_eq e10)
        have hD10 : H10 D = some (.lst ac2) := (e10 D hDp).trans hD9
        have hD2D : D2 ≠ D := fun z => by rw [z, hD10] at hD2; cases hD2
        refine lc_range (lo := 0) (n := (1 + r3).toNat) (fun y H' => ∃ ns : List Int, H' D2 = some (.lst (ns.map V.int)) ∧ ns.length = y ∧ (∀ k ∈ ns, 0 ≤ k ∧ k < 2 + r2) ∧ (∀ b o, b ≠ p → H10 b = some o → H' b = some o) ∧ Dc p (m + 402 + 20 * i + 5 * t + 1 + y) H')
          ⟨[], upd_same, rfl, (fun k hk => nomatch hk), (fun b o _ e => by rw [upd_ne (ne_of_none e hD2)]; exact e), (dc10.upd hD2p).mono (by omega)⟩ ?_ ?_
        · rintro y H11 hy ⟨ns, hns, hnl, hnin, kp11, dc11⟩
          refine ⟨rfl, ?_⟩
          refine ⟨p, _, _, rfl, dc11, by omega, by omega, by omega, fun r4 H12 r40 r41 dc12 e12 => ?_⟩
          refine ⟨ns.map V.int, (e12 D2 hD2p).trans hns, by rw [List.length_map, sizeLine_eq]; omega, ns ++ [r4], by rw [upd_same, List.map_append]; rfl, by simp [hnl], fun k hk => ?_, fun b o hb e => ?_, (dc12.upd hD2p).mono (by omega)⟩
          · rcases List.mem_append.mp hk with z | z
            · exact hnin k z
            · rw [List.mem_singleton.mp z]
              exact ⟨r40, r41⟩
          · rw [upd_ne (ne_of_none e hD2), e12 b hb]
            exact kp11 b o hb e
        · rintro H11 ⟨ns, hns, hnl, hnin, kp11, dc11⟩
          have hraw : RawI (2 + r2) ns := ⟨by omega, by omega, hnin⟩
          have hD11 := kp11 D _ hDp hD10
          refine ⟨ac2, hD11, by rw [sizeLine_eq]; omega, ac2 ++ [.ref D2], upd_same, by simp [hl9], fun j v e => ?_, ?_, (dc11.upd hDp).mono (by omega)⟩
          · by_cases hj : j < ac2.length
            · rw [List.getElem?_append_left hj] at e
              obtain ⟨q, ns', rfl, h1, hqD, h2, h3⟩ := hq9 j v e
              exact ⟨q, ns', rfl, h1, hqD, by rw [upd_ne hqD]; exact kp11 q _ h1 ((e10 q h1).trans h2), h3⟩
            · rw [List.getElem?_append_right (by omega)] at e
              have e3 : j - ac2.length = 0 := by
                have := (List.getElem?_eq_some_iff.mp e).1
                simp at this
                omega
              rw [e3] at e
              cases e
              exact ⟨D2, ns, rfl, hD2p, hD2D, by rw [upd_ne hD2D]; exact hns, hraw⟩
          · exact nxt_of fun b o hb e => by
              rw [upd_ne (ne_of_none e hD)]
              exact kp11 b o hb (nx10.get hb e)
      · rintro H9 ⟨ac2, hD9, hl9, hq9, nx9, dc9⟩
        have hl2 : ac2.length = 2 := hl9
        obtain ⟨v0, v1, rfl⟩ : ∃ v0 v1, ac2 = [v0, v1] := by
          match ac2, hl2 with
          | [v0, v1], _ => exact ⟨v0, v1, rfl⟩
        obtain ⟨q0, ns0, rfl, h01, h0D, h02, raw0⟩ := hq9 0 v0 rfl
        obtain ⟨q1, ns1, rfl, h11, h1D, h12, raw1⟩ := hq9 1 v1 rfl
        have hR9 : H9 R = some (.lst acc) := nx9.get hRp hR8
        refine ⟨R, acc, rfl, hR9, ?_⟩
        refine .inl ⟨_, .ref q0, SqL.of hD9, rfl, ?_⟩
        refine ⟨q0, ns0, rfl, SqL.of h02, by have := raw0.few; omega, fun p10 c10 H10 s10 n10 e10 hc10 => ?_⟩
        refine ⟨p10, _, c10, rfl, e10, by have := raw0.few; omega, fun ms0 p11 H11 asc0 mem0 len0 s11 n11 l11 => ?_⟩
        refine ⟨p11, _, rfl, SqL.of l11, fun p12 H12 s12 n12 l12 => ?_⟩
        have s912 := (s10.trans s11).trans s12
        refine .inl ⟨_, .ref q1, SqL.of (s912 _ _ hD9), rfl, ?_⟩
        refine ⟨q1, ns1, rfl, SqL.of (s912 _ _ h12), by have := raw1.few; omega, fun p13 c13 H13 s13 n13 e13 hc13 => ?_⟩
        refine ⟨p13, _, c13, rfl, e13, by have := raw1.few; omega, fun ms1 p14 H14 asc1 mem1 len1 s14 n14 l14 => ?_⟩
        refine ⟨p14, _, rfl, SqL.of l14, fun p15 H15 s15 n15 l15 => ?_⟩
        refine ⟨by simp, fun p16 H16 s16 n16 l16 => ?_⟩
        have s1216 := ((s13.trans s14).trans s15).trans s16
        have s916 := s912.trans s1216
        refine ⟨acc, s916 _ _ hR9, ?_, ?_⟩
        · have := hacc.length
          have h2 := congrArg List.length hnm
          simp only [List.length_map, List.length_take] at h2 this
          omega
        have dc16 : Dc p (m + 402 + 20 * i + 10) H16 := (dc9.same s916).mono (by omega)
        have hp9 : H9 p ≠ none := dc9.some
        have ne9 : ∀ {b : Addr}, H9 b = none → b ≠ p := fun {b} e z => hp9 (z ▸ e)
        have hp12 : p12 ≠ p := (dc9.same (s10.trans s11)).ne n12
        have hp15 : p15 ≠ p := (dc9.same ((s912.trans s13).trans s14)).ne n15
        have hp16 : p16 ≠ p := (dc9.same (((s912.trans s13).trans s14).trans s15)).ne n16
        have neR : ∀ {H' : Hp} {b : Addr}, Same H9 H' → H' b = none → b ≠ R := fun {H' b} s e z => by
          rw [z, s _ _ hR9] at e
          cases e
        have hid : ∀ {H' : Hp} {b : Addr} {o : HO}, b ≠ p → b ≠ R → H' b = some o → hide [R, p] H' b = some o := fun {H' b o} hb hb2 e => by
          rw [hide_in (fun z => by
            rcases List.mem_cons.mp z with y | y
            · exact hb2 y
            · exact hb (List.mem_singleton.mp y))]
          exact e
        have g0 := raw0.tidy (ms := ms0) ⟨asc0, fun k => (mem0 k).trans decide_eq_true_iff⟩ (by have := raw0.few; omega)
        have g1 := raw1.tidy (ms := ms1) ⟨asc1, fun k => (mem1 k).trans decide_eq_true_iff⟩ (by have := raw1.few; omega)
        have hrow : Dq K (hide [R, p] H16) (.ref p16) (rowD (x, ms0, ms1)) := row_dq (hid hp16 (neR (((s912.trans s13).trans s14).trans s15) n16) l16) (hid hp12 (neR (s10.trans s11) n12) (s1216 _ _ l12)) (hid hp15 (neR ((s912.trans s13).trans s14) n15) (s16 _ _ l15))
        have nx816 : Nxt p H8 H16 := nx9.trans (Nxt.of s916)
        have s2 : Same (hide [R, p] H8) (hide [R, p] H16) := fun b o e => by
          obtain ⟨e1, e2⟩ := hide_of e
          have b1 : b ≠ p := fun z => e2 (by rw [z]; simp)
          have b2 : b ≠ R := fun z => e2 (by rw [z]; simp)
          exact hid b1 b2 (nx816.get b1 e1)
        refine ⟨raw ++ [(x, ms0, ms1)], acc ++ [.ref p16], _, _, _, _, rfl, upd_same, ?_, ?_, ?_, ?_, (dc16.upd hRp).mono (by omega)⟩
        · rw [hide_upd, List.map_append]
          exact dqAll_snoc (DqAll.same s2 _ _ hacc) hrow
        · rw [List.map_append, hnm, List.take_add_one, hx]
          rfl
        · intro r hr
          rcases List.mem_append.mp hr with z | z
          · exact hgood r z
          · rw [List.mem_singleton.mp z]
            exact ⟨hfw x (List.mem_of_getElem? hx), g0, g1⟩
        · intro b o b1 b2 e
          rw [upd_ne b2]
          exact nx816.get b1 (kp b o b1 b2 e)
    · rintro σ H8 ⟨raw, acc, o4, o5, o6, o7, rfl, hR8, hacc, hnm, hgood, kp, dc8⟩
      rw [List.length_map, List.take_length] at hnm
      rw [List.length_map] at dc8
      have hlr : raw.length = total := by
        have := congrArg List.length hnm
        simp only [List.length_map] at this
        omega
      have nd' : (raw.map (·.1)).Nodup := by rw [hnm]; exact hfn
      obtain ⟨rows, pm, asc, es⟩ := sort_rows nd'
      have hacc8 : DqAll K H8 acc (raw.map rowD) := DqAll.same hide_sub _ _ hacc
      have hmem : ∀ d ∈ raw.map rowD, ∃ r ∈ raw, d = rowD r := fun d hd => by
        obtain ⟨r, hr, e⟩ := List.mem_map.mp hd
        exact ⟨r, hr, e.symm⟩
      refine ⟨R, acc, raw.map rowD, rfl, SqL.of hR8, hacc8, fun d hd d' hd' => ?_, .inl fun d hd => ?_, by simp; omega, fun d hd => ?_, fun p9 H9 s9 n9 l9 => ?_⟩
      · obtain ⟨r, _, rfl⟩ := hmem d hd
        obtain ⟨r', _, rfl⟩ := hmem d' hd'
        exact alike_r r r'
      · obtain ⟨r, _, rfl⟩ := hmem d hd
        exact ⟨_, _, rfl⟩
      · obtain ⟨r, _, rfl⟩ := hmem d hd
        exact depth_row _ _ _
      · refine ⟨p9, _, rfl, SqL.of l9, fun p10 H10 s10 n10 l10 => ?_⟩
        refine ⟨by simp, fun p11 H11 s11 n11 l11 => ?_⟩
        have hn10 : p10 ≠ p := (dc8.same s9).ne n10
        have hn11 : p11 ≠ p := (dc8.same (s9.trans s10)).ne n11
        have hid : ∀ {H' : Hp} {b : Addr} {o : HO}, b ≠ p → H' b = some o → hide [p] H' b = some o := fun {H' b o} hb e => by
          rw [hide_in (fun z => hb (List.mem_singleton.mp z))]
          exact e
        have s811 := (s9.trans s10).trans s11
        have s2 : Same (hide [R, p] H8) (hide [p] H11) := fun b o e => by
          obtain ⟨e1, e2⟩ := hide_of e
          exact hid (fun z => e2 (by rw [z]; simp)) (s811 _ _ e1)
        have hdq := sortQ_dq (DqAll.same s2 _ _ hacc)
        rw [es] at hdq
        refine k (2 + r2) rows p11 _ H11 ⟨by omega, by omega, by rw [pm.length_eq]; omega, by rw [pm.length_eq]; omega, fun r hr => hgood r (pm.mem_iff.mp hr), asc⟩ (by rw [pm.length_eq]; exact hlr) ?_ ((dc8.same s811).mono (by omega)) ?_ l11
        · refine (nxt_of fun b o hb e => ?_ : Nxt p H H8).trans (Nxt.of s811)
          have hbR : b ≠ R := ne_of_none e nR
          exact kp b o hb hbR (nx07.get hb e)
        · exact .tup (SqT.of (hid hn11 l11)) (.cons (.int _) (.cons (.tup (SqT.of (hid hn10 (s11 _ _ l10))) hdq) .nil))
end
end K02

set_option Elab.async false
set_option linter.all false
set_option maxRecDepth 100000
set_option maxHeartbeats 4000000
/-! sorted of tuples of ints and texts: each begins with a text, and two that begin with the same one have items of the same kinds. -/
namespace L2
open PySem PySem.Spec PyProof.Rows PySem.KX
open PySem.W (dataLt alike alikeAll keyToks keyToksAll)
/-- an item as data -/
def kD : Key → PyData
  | .inl i => .int i
  | .inr x => .str x
abbrev RowK := List Key
def rowDt (r : RowK) : PyData := .tuple (r.map kD)
def rowLt (a b : RowK) : Bool := dataLt (rowDt a) (rowDt b)
/-- these two can be compared -/
def RowCmp (a b : RowK) : Prop := ∃ x r y q, a = .inr x :: r ∧ b = .inr y :: q ∧ (x = y → alikeAll (r.map kD) (q.map kD) = true)
theorem rowLt_swo {α : Type} (k : α → RowK) : SrtO.Swo fun x y => rowLt (k x) (k y) := by
  refine ⟨fun x y h => ?_, fun x y z h1 h2 => ?_⟩
  · cases c : rowLt (k y) (k x) with
    | false => rfl
    | true =>
      have := PyProof.Rows.lex_trans (O := itemOrd) _ _ _ h c
      rw [PyProof.Rows.lex_irrefl] at this
      cases this
  · cases c : rowLt (k z) (k x) with
    | false => rfl
    | true =>
      exfalso
      cases c1 : rowLt (k x) (k y) with
      | true =>
        have := PyProof.Rows.lex_trans (O := itemOrd) _ _ _ c c1
        have h2' : PyProof.Rows.lexLt itemOrd (keyToks (rowDt (k z))) (keyToks (rowDt (k y))) = false := h2
        rw [this] at h2'
        cases h2'
      | false =>
        have e := PyProof.Rows.lex_total (O := itemOrd) _ _ c1 h1
        have h2' : PyProof.Rows.lexLt itemOrd (keyToks (rowDt (k z))) (keyToks (rowDt (k y))) = false := h2
        rw [← e] at h2'
        have c' : PyProof.Rows.lexLt itemOrd (keyToks (rowDt (k z))) (keyToks (rowDt (k x))) = true := c
        rw [h2'] at c'
        cases c'
/-! ### at a heap -/
abbrev KVals (r : RowK) (us : List Value) : Prop := Paired (fun (k : Key) (u : Value) => RelV (kV k) u) r us
def RowAt (h : Heap) (v : Value) (r : RowK) : Prop := ∃ t o us n, v = .ref t ∧ h.get? t = some o ∧ o.cls = .type "tuple" ∧ o.data = .seq us n ∧ KVals r us.toList
theorem RowAt.keeps {h h' : Heap} {v : Value} {r : RowK} (k : ∀ b o, h.get? b = some o → o.cls = .type "tuple" → h'.get? b = some o) (x : RowAt h v r) : RowAt h' v r := by
  obtain ⟨t, o, us, n, e, ho, hc, hd, hr⟩ := x
  exact ⟨t, o, us, n, e, k _ _ ho hc, hc, hd, hr⟩
theorem kvals_reads {h : Heap} : ∀ {r : RowK} {us : List Value}, KVals r us → ∃ as, ReadsAll h us (r.map kD) as
  | _, _, .nil => ⟨_, .nil⟩
  | .inl i :: _, _, .cons (b := u) hx t => by
    obtain ⟨tk, rfl⟩ := hx
    obtain ⟨as, ha⟩ := kvals_reads (h := h) t
    exact ⟨_, .cons (.int i tk) ha⟩
  | .inr x :: _, _, .cons (b := u) hx t => by
    obtain ⟨tk, rfl⟩ := hx
    obtain ⟨as, ha⟩ := kvals_reads (h := h) t
    exact ⟨_, .cons (.str x tk) ha⟩
theorem depth_keys : ∀ r : RowK, PyData.depthAll (r.map kD) = 0
  | [] => by simp [PyData.depthAll]
  | .inl i :: r => by simp [PyData.depthAll, kD, PyData.depth, depth_keys r]
  | .inr x :: r => by simp [PyData.depthAll, kD, PyData.depth, depth_keys r]
section
variable {prog : Program} {w : World} {A : Around} {E : Value → Shared → Prop} {s : Shared}
theorem rows_cmp {vs : List Value} {k : Value → RowK} (hu : A.units < cLine) (hp : ∀ v ∈ vs, RowAt s.heap v (k v)) (hc : ∀ v ∈ vs, ∀ u ∈ vs, RowCmp (k v) (k u)) : SrtO.Cmp prog w A s (tuples' true) (fun p => p.1 ∈ vs) (SrtO.lt2 fun v u => rowLt (k v) (k u)) := by
  intro p q hm hm'
  have h1 := hp _ hm
  have h2 := hp _ hm'
  have h3 := hc _ hm _ hm'
  show wpAny (model prog w) A (keyLt' (tuples' true) p.1 q.1) (fun r s' => s' = s ∧ r = rowLt (k p.1) (k q.1)) (fun _ _ => False) s
  generalize k p.1 = a at h1 h3 ⊢
  generalize k q.1 = b at h2 h3 ⊢
  obtain ⟨x, r, y, q', rfl, rfl, hal⟩ := h3
  obtain ⟨t, o, us, n, e, ho, hcl, hd, hr⟩ := h1
  obtain ⟨t', o', us', n', e', ho', hcl', hd', hr'⟩ := h2
  rw [e, e']
  refine PySem.W.kat_lt ho hd ho' hd' ?_
  have hl1 : us.size = r.length + 1 := by have := hr.length; simpa using this.symm
  have hl2 : us'.size = q'.length + 1 := by have := hr'.length; simpa using this.symm
  generalize us.toList = xs at hr
  generalize us'.toList = ys at hr'
  cases hr with
  | @cons _ u _ ur hx tr =>
    cases hr' with
    | @cons _ u' _ ur' hx' tr' =>
      obtain ⟨tk, rfl⟩ := hx
      obtain ⟨tk', rfl⟩ := hx'
      obtain ⟨as, ra⟩ := kvals_reads (h := s.heap) tr
      obtain ⟨bs, rb⟩ := kvals_reads (h := s.heap) tr'
      rw [List.zip_cons_cons]
      have al0 : alike (.str x) (.str y) = true := by simp [alike]
      have d0 : A.units + min (PyData.str x).depth (PyData.str y).depth < cLine := by simp only [PyData.depth]; omega
      refine PySem.W.kat_cons (PySem.W.eqAt_alike (.str x) (.str y) A s _ _ _ _ (.str x tk) (.str y tk') al0 d0 prog w _ _ ?_)
      have er : rowLt (.inr x :: r) (.inr y :: q') = PyProof.Rows.lexLt itemOrd (keyToksAll (.str x :: r.map kD)) (keyToksAll (.str y :: q'.map kD)) := PySem.W.dataLt_tuple _ _
      cases hxy : PyData.eqv (.str x) (.str y) with
      | true =>
        have exy : x = y := by
          have : decide (x = y) = true := hxy
          exact of_decide_eq_true this
        refine PySem.W.kat_yes (PySem.W.katLex_alike (r.map kD) (q'.map kD) 1 _ _ _ _ ra rb (hal exy) (by rw [depth_keys, depth_keys]; omega) (fun _ hi => absurd hi (by decide)) ?_ ⟨rfl, ?_⟩)
        · rw [hl1, hl2, List.length_map, List.length_map]
          simp
        · rw [er, PySem.W.dataLt_all_yes al0 hxy]
      | false =>
        refine PySem.W.kat_no (PySem.W.oneLt_alike (fun _ xs z => by cases z) (.str x tk) (.str y tk') al0 (by intro z; cases z) d0 ⟨rfl, ?_⟩)
        rw [er, PySem.W.dataLt_all_no al0 hxy]
theorem row_firsts : ∀ {vs : List Value} {k : Value → RowK} {h : Heap}, (∀ v ∈ vs, RowAt h v (k v)) → (∀ v ∈ vs, ∃ x r, k v = .inr x :: r) → ∃ fs, PySem.W.KatTups h vs fs ∧ fs.length = vs.length ∧ ∀ f ∈ fs, ∃ x t, f = Value.str x t
  | [], _, _, _, _ => ⟨[], PySem.W.KatTups.nil, rfl, fun f hf => nomatch hf⟩
  | v :: vs, k, h, hp, hs => by
    obtain ⟨fs, h1, h2, h3⟩ := row_firsts (vs := vs) (k := k) (h := h) (fun u hu => hp u (List.mem_cons_of_mem _ hu)) fun u hu => hs u (List.mem_cons_of_mem _ hu)
    obtain ⟨t, o, us, n, rfl, ho, hc, hd, hr⟩ := hp v List.mem_cons_self
    obtain ⟨x, r, e⟩ := hs _ List.mem_cons_self
    rw [e] at hr
    obtain ⟨us⟩ := us
    have hr' : KVals (.inr x :: r) us := hr
    cases us with
    | nil => cases hr'
    | cons u ur =>
      cases hr' with
      | cons hx tr =>
        obtain ⟨tk, rfl⟩ := hx
        refine ⟨.str x tk :: fs, PySem.W.KatTups.cons ho hc hd rfl h1, by simp [h2], fun f hf => ?_⟩
        rcases List.mem_cons.mp hf with z | z
        · exact ⟨x, tk, z⟩
        · exact h3 f z
theorem rows_sortableO {a : Addr} {vs : List Value} {k : Value → RowK} (hu : A.units < cLine) (h0 : 0 < vs.length) (hp : ∀ v ∈ vs, RowAt s.heap v (k v)) (hc : ∀ v ∈ vs, ∀ u ∈ vs, RowCmp (k v) (k u)) (ha : ∀ o, s.heap.get? a = some o → o.cls ≠ .type "tuple") :
    SrtO.SortableO prog w A s a vs fun v u => rowLt (k v) (k u) := by
  intro h' keep
  have hp' : ∀ v ∈ vs, RowAt h' v (k v) := fun v hm => (hp v hm).keeps fun b o e c => keep b o (fun z => by subst z; exact ha o e c) e
  obtain ⟨fs, h1, h2, h3⟩ := row_firsts hp' fun v hm => by
    obtain ⟨x, r, _, _, e, _⟩ := hc v hm v hm
    exact ⟨x, r, e⟩
  refine ⟨tuples' true, fun Q E hq => ?_, rows_cmp (s := { s with heap := h' }) hu hp' hc⟩
  refine PySem.W.kat_kind (T := .type "str") h1 (by omega) (fun f hm => ?_) (by rfl) ?_
  · obtain ⟨x, t, rfl⟩ := h3 f hm
    exact PySem.W.Looks.now
  · have e : (Value.type "str" != Value.type "tuple") = true := by first | decide +kernel | rfl | decide
    rw [e]
    exact hq
end
end L2
namespace L2
open PySem PySem.Spec PyProof.Rows PySem.KX
/-- v is a tuple of these items -/
def IsRow (H : Hp) (v : V) (r : RowK) : Prop := ∃ t, v = .ref t ∧ H t = some (.tup (r.map kV))
theorem IsRow.same {H H' : Hp} {v : V} {r : RowK} (s : Same H H') (h : IsRow H v r) : IsRow H' v r := by
  obtain ⟨t, e, ht⟩ := h
  exact ⟨t, e, s _ _ ht⟩
theorem IsRow.uniq {H : Hp} {v : V} {r q : RowK} (h : IsRow H v r) (k : IsRow H v q) : r = q := by
  obtain ⟨t, rfl, h1⟩ := h
  obtain ⟨u, e, h2⟩ := k
  cases e
  rw [h1] at h2
  exact kVs_inj (HO.tup.inj (Option.some.inj h2))
abbrev RowsAt (H : Hp) : List V → List RowK → Prop := Paired (IsRow H)
theorem RowsAt.same {H H' : Hp} (s : Same H H') : ∀ {vs : List V} {rs : List RowK}, RowsAt H vs rs → RowsAt H' vs rs
  | _, _, .nil => .nil
  | _, _, .cons h t => .cons (h.same s) (RowsAt.same s t)
open Classical in
noncomputable def rowOf (H : Hp) (v : V) : RowK := if h : ∃ r, IsRow H v r then h.choose else []
theorem rowOf_is {H : Hp} {v : V} {r : RowK} (h : IsRow H v r) : rowOf H v = r := by
  unfold rowOf
  rw [dif_pos ⟨r, h⟩]
  exact (Exists.choose_spec (⟨r, h⟩ : ∃ r, IsRow H v r)).uniq h
theorem rowsOf {H : Hp} : ∀ {vs : List V} {rs : List RowK}, RowsAt H vs rs → vs.map (rowOf H) = rs
  | _, _, .nil => rfl
  | _, _, .cons h t => by rw [List.map_cons, rowOf_is h, rowsOf t]
theorem rows_mem {H : Hp} : ∀ {vs : List V} {rs : List RowK}, RowsAt H vs rs → ∀ v ∈ vs, ∃ r ∈ rs, IsRow H v r
  | _, _, .nil, v, h => absurd h List.not_mem_nil
  | _, _, .cons h t, v, hv => by
    rcases List.mem_cons.mp hv with rfl | z
    · exact ⟨_, List.mem_cons_self, h⟩
    · obtain ⟨r, h1, h2⟩ := rows_mem t v z
      exact ⟨r, List.mem_cons_of_mem _ h1, h2⟩
theorem rows_of {H : Hp} : ∀ {vs : List V}, (∀ v ∈ vs, ∃ r, IsRow H v r) → RowsAt H vs (vs.map (rowOf H))
  | [], _ => .nil
  | v :: r, h => by
    obtain ⟨q, hq⟩ := h v List.mem_cons_self
    exact .cons (by rw [rowOf_is hq]; exact hq) (rows_of fun u hu => h u (List.mem_cons_of_mem _ hu))
/-- the rows, sorted -/
def rowLe (a b : RowK) : Bool := !rowLt b a
def sortRows (rs : List RowK) : List RowK := rs.mergeSort rowLe
def tokK : Key → Int ⊕ List Nat
  | .inl i => .inl i
  | .inr x => .inr x.cps.toList
theorem toks_kD : ∀ k : Key, PySem.W.keyToks (kD k) = [tokK k]
  | .inl i => by simp [kD, PySem.W.keyToks, tokK]
  | .inr x => by simp [kD, PySem.W.keyToks, tokK]
theorem tokK_inj : ∀ {a b : Key}, tokK a = tokK b → a = b
  | .inl i, .inl j, h => by cases h; rfl
  | .inl i, .inr y, h => by cases h
  | .inr x, .inl j, h => by cases h
  | .inr x, .inr y, h => by rw [PySem.W.str_of_cps (Sum.inr.inj h)]
theorem kDs_toks : ∀ {a b : RowK}, PySem.W.keyToksAll (a.map kD) = PySem.W.keyToksAll (b.map kD) → a = b
  | [], [], _ => rfl
  | [], y :: q, h => by
    rw [List.map_cons, PySem.W.toks_all_cons] at h
    simp [PySem.W.keyToksAll] at h
  | x :: r, [], h => by
    rw [List.map_cons, PySem.W.toks_all_cons] at h
    simp [PySem.W.keyToksAll] at h
  | x :: r, y :: q, h => by
    rw [List.map_cons, List.map_cons, PySem.W.toks_all_cons, PySem.W.toks_all_cons, toks_kD, toks_kD] at h
    have h := (List.cons.inj h).2
    rw [List.singleton_append, List.singleton_append] at h
    obtain ⟨h1, h2⟩ := List.cons.inj h
    rw [tokK_inj h1, kDs_toks h2]
theorem rowLt_anti {a b : RowK} (h : rowLt a b = false) (k : rowLt b a = false) : a = b := by
  have e := PyProof.Rows.lex_total (O := itemOrd) _ _ h k
  refine kDs_toks ?_
  have e2 : PySem.W.keyToks (.tuple (a.map kD)) = PySem.W.keyToks (.tuple (b.map kD)) := e
  simpa only [PySem.W.keyToks] using e2
theorem rowLe_total (a b : RowK) : (rowLe a b || rowLe b a) = true := by
  unfold rowLe
  cases c : rowLt b a with
  | false => rfl
  | true =>
    have := (rowLt_swo (fun r : RowK => r)).asym _ _ c
    rw [this]
    rfl
theorem rowLe_trans (a b c : RowK) (h : rowLe a b = true) (k : rowLe b c = true) : rowLe a c = true := by
  unfold rowLe at *
  simp only [Bool.not_eq_true'] at *
  exact (rowLt_swo (fun r : RowK => r)).tr _ _ _ h k
theorem sortRows_perm (rs : List RowK) : (sortRows rs).Perm rs := List.mergeSort_perm _ _
theorem sortRows_sorted (rs : List RowK) : (sortRows rs).Pairwise fun a b => rowLe a b = true := List.pairwise_mergeSort (fun a b c => rowLe_trans a b c) rowLe_total rs
/-- there is just one such list -/
theorem sorted_uniq {as bs : List RowK} (h1 : as.Pairwise fun a b => rowLe a b = true) (h2 : bs.Pairwise fun a b => rowLe a b = true) (p : as.Perm bs) : as = bs :=
  p.eq_of_pairwise (fun a b _ _ h k => by
    unfold rowLe at h k
    simp only [Bool.not_eq_true'] at h k
    exact rowLt_anti k h) h1 h2
theorem sortRows_congr {as bs : List RowK} (p : as.Perm bs) : sortRows as = sortRows bs :=
  sorted_uniq (sortRows_sorted as) (sortRows_sorted bs) ((sortRows_perm as).trans (p.trans (sortRows_perm bs).symm))
/-- sorted(xs), xs a list of such tuples -/
def rSortRow (K : PySem.W.Frag) : List V → Hp → VK → Prop := fun vs H Q => ∃ (a : Addr) (xs : List V) (rs : List RowK), vs = [V.ref a] ∧ SqL K H a xs ∧ RowsAt H xs rs ∧ (∀ r ∈ rs, ∀ q ∈ rs, RowCmp r q) ∧
  ∀ ys p H', Same H H' → H p = none → H' p = some (.lst ys) → RowsAt H' ys (sortRows rs) → Q (.ref p) H'
section
variable {X : Cx}
theorem call_sortRow (hu : X.A.units + 64 < cLine) : CallR X (.builtin "sorted") (rSortRow X.K) := by
  intro pins s σ H vs us Q I r h
  obtain ⟨a, xs, rs, rfl, hs, hx, hc, q⟩ := h
  obtain ⟨its, rv, hl, hz⟩ := I.list hs
  rw [Vals.ref1 r]
  have hmem := rows_mem hx
  obtain ⟨e1, e2⟩ := refs_back rv fun x m => by
    obtain ⟨_, _, t, e, _⟩ := hmem x m
    exact ⟨t, e⟩
  have hk : ∀ v ∈ its, RowAt s.heap v (rowOf H (backV v)) ∧ rowOf H (backV v) ∈ rs := fun v hv => by
    obtain ⟨t, rfl⟩ := e2 v hv
    have hm : V.ref t ∈ xs := by rw [e1]; exact List.mem_map.mpr ⟨_, hv, rfl⟩
    obtain ⟨row, hrm, hr⟩ := hmem _ hm
    have er : rowOf H (backV (.ref t)) = row := rowOf_is hr
    rw [er]
    refine ⟨?_, hrm⟩
    obtain ⟨t', e, ht⟩ := hr
    cases e
    obtain ⟨_, its2, r2, o, ho, hcl, n, hd⟩ := I.hok _ _ ht
    refine ⟨t, o, its2.toArray, n, rfl, ho, hcl, hd, ?_⟩
    have go : ∀ {ks : RowK} {us : List Value}, Vals (ks.map kV) us → KVals ks us := fun {ks us} => by
      intro r2
      induction ks generalizing us with
      | nil => cases r2; exact .nil
      | cons k ks ih =>
        cases r2 with
        | cons h t => exact .cons h (ih t)
    exact go r2
  have hA : X.A.in1.in1.units < cLine := by
    show X.A.units + 1 + 1 < cLine
    omega
  refine SrtO.sorted_ord (rowLt_swo fun u => rowOf H (backV u)) hl.isList (by rw [← rv.length]; exact hz) (fun h2 h₁ a' ha kk => ?_) fun out h1 h2 => ?_
  · refine rows_sortableO (s := { s with heap := h₁ }) hA (by omega) (fun v hm => (hk v hm).1.keeps fun b o e _ => (kk b o e).2) (fun v hv u hu' => hc _ (hk v hv).2 _ (hk u hu').2) fun o e => ?_
    have e' : some o = some (seqObj "list" its.toArray 0) := e.symm.trans ha
    cases e'
    intro c
    exact absurd (Value.type.inj c) (by decide)
  · have h3 : ∀ u ∈ out, ∃ a, u = Value.ref a := fun u hu => e2 u (h2.perm.mem_iff.mp hu)
    obtain ⟨n, hn⟩ := sortedAll_at s.heap its out.toArray
    have hsub : ∀ u ∈ out, u ∈ its := fun u hu => h2.perm.mem_iff.mp hu
    have hrows : RowsAt H (out.map backV) ((out.map backV).map (rowOf H)) := rows_of fun v hv => by
      obtain ⟨u, hu, rfl⟩ := List.mem_map.mp hv
      obtain ⟨t, rfl⟩ := h3 u hu
      have hm : V.ref t ∈ xs := by rw [e1]; exact List.mem_map.mpr ⟨_, hsub _ hu, rfl⟩
      obtain ⟨row, _, hr⟩ := hmem _ hm
      exact ⟨row, hr⟩
    have hsrt : (out.map backV).map (rowOf H) = sortRows rs := by
      refine sorted_uniq ?_ (sortRows_sorted rs) ?_
      · rw [List.map_map, List.pairwise_map]
        exact h1.imp fun {a b} hab => by
          unfold rowLe
          show (!rowLt (rowOf H (backV b)) (rowOf H (backV a))) = true
          have hab' : rowLt (rowOf H (backV b)) (rowOf H (backV a)) = false := hab
          rw [hab']
          rfl
      · have p1 : ((out.map backV).map (rowOf H)).Perm ((its.map backV).map (rowOf H)) := (h2.perm.map backV).map (rowOf H)
        rw [← e1, rowsOf hx] at p1
        exact p1.trans (sortRows_perm rs).symm
    have hnf : H (s.heap.objs.size + 1) = none := I.hok.fresh (Nat.le_succ _)
    have hlen : (out.map backV).length ≤ sizeLine := by
      rw [List.length_map, h2.perm.length_eq, ← rv.length]
      exact hz
    rw [hsrt] at hrows
    have sm : Same H (upd H (s.heap.objs.size + 1) (.lst (out.map backV))) := (Same.refl _).new hnf
    exact ⟨.ref _, upd H (s.heap.objs.size + 1) (.lst (out.map backV)), I.laid (t' := s.toks) (fun _ _ => sortedAll_old) (Nat.le_succ _) ⟨hlen, out, n, vals_back h3, hn⟩, rfl, q _ _ _ sm hnf upd_same (hrows.same sm)⟩
end
end L2

set_option Elab.async false
set_option linter.all false
set_option maxRecDepth 100000
set_option maxHeartbeats 4000000
/-! Dicts whose keys are ints: in, not in, update, a display with one pair. -/
namespace L2
open PySem PySem.Spec PyProof.Rows PySem.KX
section
variable {X : Cx}
def rInDK : R2 := fun x y H Q => ∃ a kvs k, y = V.ref a ∧ x = kV k ∧ H a = some (.dK kvs) ∧ Q (.bl (valV kvs k).isSome) H
theorem op_in_dK (hu : X.A.units + 64 < cLine) : OpR X (compareOp .In) rInDK := by
  intro pins s σ H x y v u Q I rx ry h
  obtain ⟨a, kvs, k, rfl, rfl, ha, q⟩ := h
  obtain rfl : u = Value.ref a := ry
  exact d_in (by omega) I (.inl ⟨kvs, k, .inl ha, rfl, rfl⟩) rx fun s3 I3 => ⟨.bl _, H, I3, rfl, q⟩
def rNotInDK : R2 := fun x y H Q => ∃ a kvs k, y = V.ref a ∧ x = kV k ∧ H a = some (.dK kvs) ∧ Q (.bl (!(valV kvs k).isSome)) H
theorem op_notIn_dK (hu : X.A.units + 64 < cLine) : OpR X (compareOp .NotIn) rNotInDK := by
  intro pins s σ H x y v u Q I rx ry h
  obtain ⟨a, kvs, k, rfl, rfl, ha, q⟩ := h
  obtain rfl : u = Value.ref a := ry
  exact d_notIn (by omega) I (.inl ⟨kvs, k, .inl ha, rfl, rfl⟩) rx fun s3 I3 => ⟨.bl _, H, I3, rfl, q⟩
def rDUpd : V → List V → Hp → VK → Prop := fun x vs H Q => ∃ d o kvs more, x = .ref d ∧ vs = [.ref o] ∧ H d = some (.dK kvs) ∧ H o = some (.dK more) ∧ d ≠ o ∧ kvs.length + more.length ≤ 16000000 ∧ Q .non (upd H d (.dK (mergeK kvs more)))
theorem mt_dupdate : MtR X "dict.update" rDUpd := by
  intro pins s σ H x vs v us Q I rx rv h
  obtain ⟨d, o, kvs, more, rfl, rfl, hd, ho, hne, hl, q⟩ := h
  obtain rfl : v = Value.ref d := rx
  obtain ⟨u, rfl, ru⟩ := rv.one
  obtain rfl : u = Value.ref o := ru
  obtain ⟨z1, s1, vs1, rel1, dd1⟩ := dk_of I.hok hd
  obtain ⟨z2, s2, vs2, rel2, dd2⟩ := dk_of I.hok ho
  have l1 : kvs.length = vs1.length := Paired.length rel1
  have l2 : more.length = vs2.length := Paired.length rel2
  refine call_meetsIn PySem.F.slot_dict_update dd1.typeIs PySem.F.entry_dict_update (PySem.F.args_dict_update_2 _ _) (meets_dict_update (mixKind X.prog X.w) d o hne s2) ⟨vs1, vs2, dd1, dd2, by rw [← l1, ← l2, sizeLine_eq]; omega, fun h' dd' _ hs => ?_⟩
  have hz : (mergeK kvs more).length ≤ sizeLine := by
    have h1 := length_mergeK more kvs
    rw [sizeLine_eq]; omega
  have he : ∃ q, h'.get? d = some q := let ⟨q, _, _, hq, _⟩ := dd'; ⟨q, hq⟩
  exact ⟨.non, _, d_write I (t' := s.toks) (by rw [hd]; exact True.intro) hs he (dk_new hz s1 (rel2.merge rel1) dd'), rfl, q⟩
/-- {x: True} -/
theorem pe_dct1 {e1 e2 : Expr} {pos : Pos} {i : Nat} (h1 : PE X e1 (aVar i)) (h2 : PE X e2 (tC (.bl true))) : PE X (.Dict [some e1] [e2] pos) (fun σ H Q => ∃ k : Int, σ[i]? = some (some (.int k)) ∧ ∀ p H', Same H H' → H p = none → H' p = some (.dK [(.inl k, .bl true)]) → Q (.ref p) H') :=
  (pe_disp (pps_cons h1 h2 pps_nil) rfl rfl (by simp) (by simp)).imp fun σ H Q ⟨k, hk, q⟩ => fun p n => by
    have e : aVar i σ (upd H p (.dK [])) = fun Q => Q (.int k) (upd H p (.dK [])) := by
      funext Q
      unfold aVar
      rw [hk]
    show aVar i σ (upd H p (.dK [])) _
    rw [e]
    exact ⟨upd_same, [(.inl k, .bl true)], rfl, by simp, q p _ (by rw [upd_upd]; exact (Same.refl _).new n) n (by rw [upd_upd]; exact upd_same)⟩
end
/-! the keys of a dict -/
theorem valV_merge (j : Key) : ∀ (more kvs : List (Key × V)), (valV (mergeK kvs more) j).isSome = ((valV kvs j).isSome || (valV more j).isSome)
  | [], kvs => by show (valV kvs j).isSome = _; simp [valV_nil]
  | p :: r, kvs => by
    show (valV (mergeK (putK kvs p.1 p.2) r) j).isSome = _
    rw [valV_merge j r, valV_put]
    by_cases e : j = p.1
    · rw [if_pos e, valV_pos e.symm]
      simp
    · rw [if_neg e, valV_neg (fun z => e z.symm)]
end L2

set_option Elab.async false
set_option linter.all false
set_option maxRecDepth 100000
set_option maxHeartbeats 4000000
namespace K02
open PySem L2 PySem.KX StX
theorem PI.or {X : Cx} {tg it : Expr} {w w' : TI} (h : PI X tg it w) (h' : PI X tg it w') : PI X tg it (fun σ H R => w σ H R ∨ w' σ H R) :=
  ⟨fun pins s σ H R I q => q.elim (h.run pins s σ H R I) (h'.run pins s σ H R I)⟩
theorem inV_int {k : Int} {ns : List Int} : inV (.int k) (ns.map V.int) = decide (k ∈ ns) := by
  unfold inV
  rw [List.any_map]
  by_cases h : k ∈ ns
  · rw [decide_eq_true h]
    exact List.any_eq_true.mpr ⟨k, h, by simp [eqV]⟩
  · rw [decide_eq_false h]
    refine List.any_eq_false.mpr fun y hy e => h ?_
    have e2 : (y == k) = true := e
    have e3 : y = k := by simpa using e2
    rw [← e3]
    exact hy
theorem flat_ints (ns : List Int) : (ns.map V.int).all flatV = true := by
  rw [List.all_map]
  exact List.all_eq_true.mpr fun _ _ => rfl
/-! ### what can be reached -/
inductive Reach (rows : List RowN) (b : Int) : Int → Prop
  | base : Reach rows b b
  | step {k j : Int} {r : RowN} : Reach rows b k → r ∈ rows → k ∈ r.2.1 → j ∈ r.2.2 → Reach rows b j
def flipR (r : RowN) : RowN := (r.1, r.2.2, r.2.1)
/-- a set that holds b and is closed holds all that can be reached -/
theorem Reach.least {rows : List RowN} {b : Int} {S : Int → Prop} (hb : S b) (hc : ∀ r ∈ rows, ∀ k ∈ r.2.1, S k → ∀ j ∈ r.2.2, S j) : ∀ {k : Int}, Reach rows b k → S k
  | _, .base => hb
  | _, .step h hr hk hj => hc _ hr _ hk (Reach.least hb hc h) _ hj
abbrev inD (kvs : List (Key × V)) (k : Int) : Bool := (valV kvs (.inl k)).isSome
/-- how many of the places below n are not in the dict yet -/
def cntD (n : Nat) (kvs : List (Key × V)) : Nat := ((List.range n).filter fun i : Nat => !inD kvs (i : Int)).length
theorem filter_lt {α : Type} {l : List α} {p q : α → Bool} (h : ∀ x ∈ l, q x = true → p x = true) : (l.filter q).length ≤ (l.filter p).length ∧ ∀ x ∈ l, p x = true → q x = false → (l.filter q).length < (l.filter p).length := by
  induction l with
  | nil => exact ⟨Nat.le_refl _, fun x hx => absurd hx List.not_mem_nil⟩
  | cons y r ih =>
    obtain ⟨i1, i2⟩ := ih fun x hx => h x (List.mem_cons_of_mem _ hx)
    have hy := h y List.mem_cons_self
    refine ⟨?_, fun x hx px qx => ?_⟩
    · simp only [List.filter_cons]
      cases c : q y with
      | true =>
        rw [hy c]
        simp only [if_true, List.length_cons]
        omega
      | false =>
        simp only [Bool.false_eq_true, if_false]
        split
        · rw [List.length_cons]; omega
        · exact i1
    · simp only [List.filter_cons]
      rcases List.mem_cons.mp hx with rfl | z
      · rw [px, qx]
        simp only [Bool.false_eq_true, if_false, if_true, List.length_cons]
        omega
      · have := i2 x z px qx
        cases c : q y with
        | true =>
          rw [hy c]
          simp only [if_true, List.length_cons]
          omega
        | false =>
          simp only [Bool.false_eq_true, if_false]
          split
          · rw [List.length_cons]; omega
          · exact this
theorem cnt_more {n : Nat} {kvs kvs' : List (Key × V)} (h : ∀ k, inD kvs k = true → inD kvs' k = true) : cntD n kvs' ≤ cntD n kvs ∧ ∀ k : Int, 0 ≤ k → k < n → inD kvs k = false → inD kvs' k = true → cntD n kvs' < cntD n kvs := by
  have f := filter_lt (l := List.range n) (p := fun i : Nat => !inD kvs (i : Int)) (q := fun i : Nat => !inD kvs' (i : Int)) fun x _ hx => by
    cases c : inD kvs (x : Int) with
    | false => rfl
    | true => rw [h _ c] at hx; cases hx
  refine ⟨f.1, fun k h0 h1 h2 h3 => f.2 k.toNat (List.mem_range.mpr (by omega)) ?_ ?_⟩
  · rw [Int.toNat_of_nonneg h0, h2]; rfl
  · rw [Int.toNat_of_nonneg h0, h3]; rfl
theorem cnt_le (n : Nat) (kvs : List (Key × V)) : cntD n kvs ≤ n := by
  unfold cntD
  have := List.length_filter_le (fun i : Nat => !inD kvs (i : Int)) (List.range n)
  rw [List.length_range] at this
  exact this
abbrev shave_common : Stmt := top 21
theorem schave_common : FnScope ["places", "others", "place"] ["places", "others"] (defScope shave_common) := ⟨rfl, rfl, rfl, by decide +kernel, rfl, by decide +kernel, by decide +kernel⟩
section
variable {P : Program} {w : World} {K : PySem.W.Frag} {mg : Str → Option Value} {base : Heap}
/-- ints in a tuple, or as the keys of a dict -/
def IntsAt (K : PySem.W.Frag) (H : Hp) (o : Addr) (S : Int → Bool) : Prop := (∃ ms : List Int, SqT K H o (ms.map V.int) ∧ ∀ k, S k = decide (k ∈ ms)) ∨ ∃ kvs, H o = some (.dK kvs) ∧ ∀ k, S k = inD kvs k
theorem IntsAt.same {H H' : Hp} {o : Addr} {S : Int → Bool} (s : Same H H') (h : IntsAt K H o S) : IntsAt K H' o S := by
  rcases h with ⟨ms, h1, h2⟩ | ⟨kvs, h1, h2⟩
  · exact .inl ⟨ms, s.sqT h1, h2⟩
  · exact .inr ⟨kvs, s _ _ h1, h2⟩
def rInB (K : PySem.W.Frag) : R2 := fun x y H Q => rIn K false x y H Q ∨ rInDK x y H Q
def spCommon (K : PySem.W.Frag) : Sp := fun vs H Q _ => ∃ (a o : Addr) (ns : List Int) (S : Int → Bool), vs = [.ref a, .ref o] ∧ SqT K H a (ns.map V.int) ∧ ns.length ≤ 1000 ∧ IntsAt K H o S ∧ ∀ H', Same H H' → Q (.bl (ns.any S)) H'
theorem ok_have_common {f : Addr} {fd : FuncData} (F : Fun K "have_common" "have_common" shave_common f fd) (hany : mg "any" = none) : FnG P w K mg base CX0 1 f fd ["places", "others"] (spCommon K) := by
  have nd := schave_common.nd
  refine okG F schave_common (fun vs H Q E h => ?_) (fun cdv A outer s H vs Q E hr h => ?_)
  · obtain ⟨_, _, _, _, rfl, _⟩ := h
    rfl
  · obtain ⟨a, o, ns, S, rfl, ha, hn, ho, k⟩ := h
    refine ⟨_, (pss_one (ps_ret (pe_callB (cr_any rfl) (by rfl) hany (by decide +kernel) (pa_cons (pe_lc (own := [("place", 2)]) (by rfl) nd (pi_tup (av 0)) (blkOk_by (N := ["places", "others", "place"]) (sc := defScope shave_common) (by decide +kernel)) (fun _ _ _ _ _ => (pg_name (i := 2) nd rfl (Or.inl rfl))) (fun _ _ _ _ _ => pts_nil) (fun _ _ _ _ _ => (show PE _ _ (tUp (tOp (rInB K) (aVar 2) (aVar 1))) from PE.up (pe_cmpA (OpR.or op_in_seq (op_in_dK hr.units64)) (av 2) (av 1))))) pa_nil)))), ?_⟩
    refine ⟨a, rfl, ⟨_, ha⟩, fun D hD => ?_⟩
    refine lc_itS (walk_tup (xs := ns.map V.int)) (fun j u _ => ∃ k, ns[j]? = some k ∧ u = .bl (S k)) (fun _ _ _ _ _ h => h) hD (by rw [List.length_map]; omega) (fun H' s5 => s5.sqT ha) (fun j y H' H2 hj s5 hD5 ⟨e2, hy⟩ => ?_) gName_mono (fun H' acc s6 hl la hacc => ?_)
    · subst e2
      rw [List.getElem?_map] at hy
      cases c : ns[j]? with
      | none => rw [c] at hy; cases hy
      | some k =>
        rw [c] at hy
        cases hy
        refine ⟨rfl, ?_⟩
        rcases ho.same s5 with ⟨ms, h1, h2⟩ | ⟨kvs, h1, h2⟩
        · refine .inl ⟨o, _, rfl, .inr h1, rfl, flat_ints ms, ?_⟩
          rw [if_neg (by decide), inV_int]
          exact ⟨Same.refl _, k, rfl, by rw [h2]⟩
        · exact .inr ⟨o, kvs, .inl k, rfl, rfl, h1, Same.refl _, k, rfl, by rw [h2]⟩
    · have ea : acc = (ns.map S).map V.bl := acc_mapN (by rw [la, List.length_map]) fun j v hj => by
        obtain ⟨k, h1, h2⟩ := hacc j v hj
        exact ⟨k, h1, h2⟩
      refine ⟨D, ns.map S, rfl, SqL.of (by rw [← ea]; exact hl), ?_⟩
      have e : (ns.map S).any id = ns.any S := by rw [List.any_map]; rfl
      rw [e]
      exact k _ s6
end
end K02

set_option Elab.async false
set_option linter.all false
set_option maxRecDepth 100000
set_option maxHeartbeats 4000000
namespace K02
open PySem L2 PySem.KX StX
abbrev s_reached : Stmt := top 23
theorem sc_reached : FnScope ["steps", "begin", "reached", "waiting", "place", "_", "inputs", "outputs", "output"] ["steps", "begin"] (defScope s_reached) := ⟨rfl, rfl, rfl, by decide +kernel, rfl, by decide +kernel, by decide +kernel⟩
/-- rows whose places are all below n; the outputs of one are few -/
structure RowsIn (n : Nat) (rows : List RowN) : Prop where
  few : rows.length ≤ 40
  out : ∀ r ∈ rows, ∀ k ∈ r.2.2, 0 ≤ k ∧ k < (n : Int)
  olen : ∀ r ∈ rows, r.2.2.length ≤ 30
  ilen : ∀ r ∈ rows, r.2.1.length ≤ 30
/-- the state of the search: the dict, the list of what is still to be looked at -/
structure Srch (n : Nat) (rows : List RowN) (b : Int) (kvs : List (Key × V)) (ws : List Int) (now : Option (Int × Nat)) : Prop where
  beg : inD kvs b = true
  sound : ∀ k, inD kvs k = true → Reach rows b k
  wait : ∀ k ∈ ws, inD kvs k = true
  done : ∀ k, inD kvs k = true → k ∉ ws → (∀ p i, now = some (p, i) → k ≠ p) → ∀ r ∈ rows, k ∈ r.2.1 → ∀ j ∈ r.2.2, inD kvs j = true
  part : ∀ p i, now = some (p, i) → inD kvs p = true ∧ ∀ t, t < i → ∀ r, rows[t]? = some r → p ∈ r.2.1 → ∀ j ∈ r.2.2, inD kvs j = true
/-- the measure -/
def muS (n : Nat) (kvs : List (Key × V)) (ws : List Int) : Nat := 31 * cntD n kvs + ws.length
theorem Srch.start {n : Nat} {rows : List RowN} {b : Int} : Srch n rows b [(.inl b, .bl true)] [b] none := by
  have one : ∀ k, inD [(Sum.inl b, V.bl true)] k = decide (k = b) := fun k => by
    unfold inD valV
    by_cases e : k = b
    · subst e; simp
    · have : ¬ (Sum.inl b : Key) = Sum.inl k := fun z => e (Sum.inl.inj z).symm
      simp [this, e]
  refine ⟨by rw [one]; simp, fun k hk => ?_, fun k hk => ?_, fun k hk hn => ?_, fun p i h => nomatch h⟩
  · rw [one] at hk
    rw [of_decide_eq_true hk]
    exact .base
  · rw [List.mem_singleton.mp hk, one]; simp
  · rw [one] at hk
    exact absurd (List.mem_singleton.mpr (of_decide_eq_true hk)) hn
/-- one is taken off -/
theorem Srch.take {n : Nat} {rows : List RowN} {b : Int} {kvs : List (Key × V)} {ws : List Int} {p : Int} (h : Srch n rows b kvs (ws ++ [p]) none) : Srch n rows b kvs ws (some (p, 0)) := by
  refine ⟨h.beg, h.sound, fun k hk => h.wait k (List.mem_append_left _ hk), fun k hk hn hp => h.done k hk (fun z => ?_) (fun _ _ z => nomatch z), fun q i e => ?_⟩
  · rcases List.mem_append.mp z with z | z
    · exact hn z
    · exact hp p 0 rfl (List.mem_singleton.mp z)
  · cases e
    exact ⟨h.wait _ (List.mem_append_right _ (List.mem_singleton.mpr rfl)), fun t ht => absurd ht (Nat.not_lt_zero _)⟩
/-- a row that does not begin there -/
theorem Srch.skip {n : Nat} {rows : List RowN} {b : Int} {kvs : List (Key × V)} {ws : List Int} {p : Int} {i : Nat} {r : RowN} (h : Srch n rows b kvs ws (some (p, i))) (hr : rows[i]? = some r) (hp : p ∉ r.2.1) : Srch n rows b kvs ws (some (p, i + 1)) := by
  refine ⟨h.beg, h.sound, h.wait, fun k hk hn hq => h.done k hk hn fun q j e => ?_, fun q j e => ?_⟩
  · cases e
    exact hq p (i + 1) rfl
  · cases e
    obtain ⟨h1, h2⟩ := h.part p i rfl
    refine ⟨h1, fun t ht r' hr' hp' j hj => ?_⟩
    by_cases e : t = i
    · subst e
      rw [hr] at hr'
      cases hr'
      exact absurd hp' hp
    · exact h2 t (by omega) r' hr' hp' j hj
/-- a row that does -/
theorem Srch.more {n : Nat} {rows : List RowN} {b : Int} {kvs kvs' : List (Key × V)} {ws : List Int} {p : Int} {i : Nat} {r : RowN} (h : Srch n rows b kvs ws (some (p, i))) (hr : rows[i]? = some r) (hp : p ∈ r.2.1) (hk : ∀ k, inD kvs' k = (inD kvs k || decide (k ∈ r.2.2))) :
    Srch n rows b kvs' (ws ++ r.2.2.filter fun k => !inD kvs k) (some (p, i + 1)) := by
  obtain ⟨h1, h2⟩ := h.part p i rfl
  have hm := List.mem_of_getElem? hr
  have up : ∀ k, inD kvs k = true → inD kvs' k = true := fun k e => by rw [hk, e]; rfl
  refine ⟨up _ h.beg, fun k e => ?_, fun k e => ?_, fun k e hn hq => ?_, fun q j e => ?_⟩
  · rw [hk, Bool.or_eq_true] at e
    rcases e with e | e
    · exact h.sound k e
    · exact .step (h.sound p h1) hm hp (of_decide_eq_true e)
  · rcases List.mem_append.mp e with z | z
    · exact up k (h.wait k z)
    · rw [hk, decide_eq_true (List.mem_filter.mp z).1, Bool.or_true]
  · have hw : k ∉ ws := fun z => hn (List.mem_append_left _ z)
    have hold : inD kvs k = true := by
      cases c : inD kvs k with
      | true => rfl
      | false =>
        rw [hk, c, Bool.false_or] at e
        exact absurd (List.mem_append_right _ (List.mem_filter.mpr ⟨of_decide_eq_true e, by rw [c]; rfl⟩)) hn
    intro r' hr' hk' j hj
    exact up j (h.done k hold hw (fun q j e => by cases e; exact hq p (i + 1) rfl) r' hr' hk' j hj)
  · cases e
    refine ⟨up _ h1, fun t ht r' hr' hp' j hj => ?_⟩
    by_cases e : t = i
    · subst e
      rw [hr] at hr'
      cases hr'
      rw [hk, decide_eq_true hj, Bool.or_true]
    · exact up j (h2 t (by omega) r' hr' hp' j hj)
theorem Srch.next {n : Nat} {rows : List RowN} {b : Int} {kvs : List (Key × V)} {ws : List Int} {p : Int} (h : Srch n rows b kvs ws (some (p, rows.length))) : Srch n rows b kvs ws none := by
  obtain ⟨h1, h2⟩ := h.part p _ rfl
  refine ⟨h.beg, h.sound, h.wait, fun k hk hn _ r hr hp j hj => ?_, fun q i e => nomatch e⟩
  by_cases e : k = p
  · subst e
    obtain ⟨t, ht⟩ := List.getElem?_of_mem hr
    exact h2 t (List.getElem?_eq_some_iff.mp ht).1 r ht hp j hj
  · exact h.done k hk hn (fun q i e2 => by cases e2; exact e) r hr hp j hj
theorem Srch.end {n : Nat} {rows : List RowN} {b : Int} {kvs : List (Key × V)} (h : Srch n rows b kvs [] none) (k : Int) : inD kvs k = true ↔ Reach rows b k :=
  ⟨h.sound k, Reach.least (S := fun k => inD kvs k = true) h.beg fun r hr k hk hS j hj => h.done k hS List.not_mem_nil (fun _ _ z => nomatch z) r hr hk j hj⟩
theorem mu_more {n : Nat} {kvs kvs' : List (Key × V)} {ws os : List Int} (ho : ∀ k ∈ os, 0 ≤ k ∧ k < (n : Int)) (hl : os.length ≤ 30) (hk : ∀ k, inD kvs' k = (inD kvs k || decide (k ∈ os))) : muS n kvs' (ws ++ os.filter fun k => !inD kvs k) ≤ muS n kvs ws := by
  obtain ⟨c1, c2⟩ := cnt_more (n := n) (kvs := kvs) (kvs' := kvs') fun k e => by rw [hk, e]; rfl
  have hf := List.length_filter_le (fun k => !inD kvs k) os
  unfold muS
  rw [List.length_append]
  by_cases e : (os.filter fun k => !inD kvs k) = []
  · rw [e, List.length_nil]
    omega
  · obtain ⟨k, hk2⟩ := List.exists_mem_of_ne_nil _ e
    obtain ⟨h1, h2⟩ := List.mem_filter.mp hk2
    obtain ⟨b0, b1⟩ := ho k h1
    have := c2 k b0 b1 (by simpa using h2) (by rw [hk, decide_eq_true h1, Bool.or_true])
    omega
end K02

set_option Elab.async false
set_option linter.all false
set_option maxRecDepth 100000
set_option maxHeartbeats 4000000
namespace K02
open PySem L2 PySem.KX StX
theorem dc_it {J : It} {n : Nat} {G : Hp → Prop} {Y : Nat → Hp → V → Hp → Prop} (wk : Walk J n G Y) {g : TG} {tt : TT} {tk tv : TE} {vs : List Nat} {σ : L2.St} {H1 : Hp} {D : Addr} {Qd : Hp → Prop} (Pv : Nat → Hp → Prop) (h0 : Pv 0 (upd H1 D (.dK []))) (hG : ∀ i H, i ≤ n → Pv i H → G H)
    (hs : ∀ i x H H', i < n → Pv i H → Y i H x H' → g x (wipe σ vs) H' fun σ2 H2 => wipe σ2 vs = wipe σ vs ∧ tt σ2 H2 fun b H3 =>
      if b = true then tk σ2 H3 fun y H4 => tv σ2 H4 fun z H5 => ∃ kvs k, y = kV k ∧ H5 D = some (.dK kvs) ∧ kvs.length < sizeLine ∧ Pv (i + 1) (upd H5 D (.dK (putK kvs k z))) else Pv (i + 1) H3) (hd : ∀ H, Pv n H → Qd H) :
    ∃ W : Nat → Nat → Hp → Prop, (∃ m, W 0 m (upd H1 D (.dK []))) ∧ ∀ i m H, W i m H →
      (J.stop i H ∧ Qd H) ∨ (J.go i H ∧ ∃ Nx : Hp → Prop, (∀ H', Nx H' → ∃ m', m' < m ∧ W (i + 1) m' H') ∧ ∀ x H', J.yld i H x H' → g x (wipe σ vs) H' fun σ2 H2 => wipe σ2 vs = wipe σ vs ∧ tt σ2 H2 fun b H3 =>
        if b = true then tk σ2 H3 fun y H4 => tv σ2 H4 fun z H5 => ∃ kvs k, y = kV k ∧ H5 D = some (.dK kvs) ∧ kvs.length < sizeLine ∧ Nx (upd H5 D (.dK (putK kvs k z))) else Nx H3) := by
  refine ⟨fun i m H => i + m = n ∧ Pv i H, ⟨n, Nat.zero_add n, h0⟩, fun i m H ⟨e, p⟩ => ?_⟩
  have le : i ≤ n := by omega
  rcases Nat.lt_or_ge i n with lt | ge
  · refine .inr ⟨wk.goes i H lt (hG i H le p), Pv (i + 1), fun H' p' => ⟨m - 1, by omega, by omega, p'⟩, fun x H' y => hs i x H H' lt p (wk.yields i H x H' lt (hG i H le p) y)⟩
  · obtain rfl : i = n := by omega
    exact .inl ⟨wk.stops H (hG i H le p), hd H p⟩
def WR (H : Hp) (a R L : Addr) (b : Int) (n : Nat) (rows : List RowN) (m : Nat) (σ : L2.St) (H' : Hp) : Prop := ∃ (kvs : List (Key × V)) (ws : List Int) (o4 o5 o6 o7 o8 : Option V), σ = [some (.ref a), some (.int b), some (.ref R), some (.ref L), o4, o5, o6, o7, o8] ∧ H' R = some (.dK kvs) ∧ H' L = some (.lst (ws.map V.int)) ∧ Srch n rows b kvs ws none ∧ m = muS n kvs ws ∧ kvs.length + 1200 * m ≤ 1200 * 931 + 1 ∧ Same H H'
theorem row_at {K : PySem.W.Frag} {H : Hp} {v : V} {r : RowN} (h : Dq K H v (rowD r)) : ∃ t p q, v = .ref t ∧ SqT K H t [.str r.1, .ref p, .ref q] ∧ SqT K H p (r.2.1.map V.int) ∧ SqT K H q (r.2.2.map V.int) := by
  cases h with
  | @tup t xs ds h1 h2 =>
    cases h2 with
    | cons a1 t1 =>
      cases t1 with
      | cons a2 t2 =>
        cases t2 with
        | cons a3 t3 =>
          cases t3
          cases a1
          cases a2 with
          | @tup p ys _ b1 b2 =>
            cases a3 with
            | @tup q zs _ c1 c2 =>
              have e1 := dq_ints b2
              have e2 := dq_ints c2
              subst e1
              subst e2
              exact ⟨t, p, q, rfl, h1, b1, c1⟩
section
variable {P : Program} {w : World} {K : PySem.W.Frag} {mg : Str → Option Value} {base : Heap}
def spReachT (K : PySem.W.Frag) : Sp := fun vs H Q _ => ∃ (a : Addr) (b : Int) (n : Nat) (rows : List RowN) (xs : List V) (_ : 0 ≤ b) (_ : b < n) (_ : n ≤ 30), vs = [.ref a, .int b] ∧ RowsIn n rows ∧ SqT K H a xs ∧ DqAll K H xs (rows.map rowD) ∧
  ∀ R H' kvs, Same H H' → H R = none → H' R = some (.dK kvs) → (∀ k : Int, inD kvs k = true ↔ Reach rows b k) → Q (.ref R) H'
theorem ok_reachedT {f : Addr} {fd : FuncData} (F : Fun K "_reached" "_reached" s_reached f fd) : FnG P w K mg base CX0 1 f fd ["steps", "begin"] (spReachT K) := by
  have nd := sc_reached.nd
  refine okG F sc_reached (fun vs H Q E h => ?_) (fun cdv A outer s H vs Q E hr h => ?_)
  · obtain ⟨_, _, _, _, _, _, _, _, rfl, _⟩ := h
    rfl
  · obtain ⟨a, b, n, rows, xs, hb0, hb1, hn, rfl, hrw, ha, hx, k⟩ := h
    refine ⟨_, (pss_cons (ps_set (i := 2) nd rfl (by first | exact Or.inl rfl | exact Or.inr rfl) (pe_dct1 (av 1) pe_bl))
      (pss_cons (ps_set (i := 3) nd rfl (Or.inl rfl) (pe_lstS (pa_cons (av 1) pa_nil)))
      (pss_cons (ps_while PassesOwn.never (pt_truth (av 3) (by intro _; rfl)) (pss_cons (ps_set (i := 4) nd rfl (Or.inl rfl) (pe_bm0 PySem.F.plainAttrs_list PySem.F.slot_list_pop PySem.F.type_list_pop mt_pop (av 3)))
      (pss_one (ps_for PassesOwn.never rfl (pi_tup (av 0)) (pg_tup rfl (pgs_cons (pg_name (i := 5) nd rfl (Or.inl rfl)) (pgs_cons (pg_name (i := 6) nd rfl (Or.inl rfl)) (pgs_cons (pg_name (i := 7) nd rfl (Or.inl rfl)) pgs_nil)))) (pss_one (ps_if (pt_cmpA op_in_seq (av 4) (av 6)) (pss_cons (ps_expr (pe_bm PySem.F.plainAttrs_list PySem.F.slot_list_extend PySem.F.type_list_extend mt_extend (av 3) (pa_cons (pe_lc (own := [("output", 8)]) (by rfl) nd (pi_tup (av 7)) (blkOk_by (N := ["steps", "begin", "reached", "waiting", "place", "_", "inputs", "outputs", "output"]) (sc := defScope s_reached) (by decide +kernel)) (fun _ _ _ _ _ => (pg_name (i := 8) nd rfl (Or.inl rfl))) (fun _ _ _ _ _ => (pts_one (pt_cmpA (op_notIn_dK hr.units64) (av 8) (av 2)))) (fun _ _ _ _ _ => (av 8))) pa_nil)))
      (pss_one (ps_expr (pe_bm PySem.F.plainAttrs_dict PySem.F.slot_dict_update PySem.F.type_dict_update mt_dupdate (av 2) (pa_cons (pe_dc (own := [("output", 8)]) (by rfl) nd (pi_tup (av 7)) (blkOk_by (N := ["steps", "begin", "reached", "waiting", "place", "_", "inputs", "outputs", "output"]) (sc := defScope s_reached) (by decide +kernel)) (fun _ _ _ _ _ => (pg_name (i := 8) nd rfl (Or.inl rfl))) (fun _ _ _ _ _ => pts_nil) (fun _ _ _ _ _ => (av 8)) (fun _ _ _ _ _ => pe_bl)) pa_nil))))) pss_nil))))))
      (pss_one (ps_ret (av 2)))))), ?_⟩
    refine ⟨b, rfl, fun R H1 s1 n1 l1 => ?_⟩
    refine ⟨by simp, fun L H2 s2 n2 l2 => ?_⟩
    have hRL : R ≠ L := fun z => by rw [← z, l1] at n2; cases n2
    have hLH : H L = none := s1.free n2
    refine ⟨WR H a R L b n rows, ⟨_, _, [b], _, _, _, _, _, rfl, s2 _ _ l1, l2, Srch.start, rfl, ?_, s1.trans s2⟩, ?_⟩
    · have := cnt_le n [(.inl b, V.bl true)]
      unfold muS
      simp only [List.length_cons, List.length_nil]
      omega
    rintro m σ H3 ⟨kvs, ws, o4, o5, o6, o7, o8, rfl, hR, hL, hS, rfl, hm, s3⟩
    refine ⟨!(ws.map V.int).isEmpty, .inl ⟨_, SqL.of hL, rfl⟩, ?_⟩
    rcases List.eq_nil_or_concat ws with rfl | ⟨ws0, p, rfl⟩
    · exact iteF (k R H3 kvs s3 n1 hR fun j => hS.end j)
    rw [List.concat_eq_append] at hL hS hm ⊢
    have e0 : (!((ws0 ++ [p]).map V.int).isEmpty) = true := by simp
    rw [e0]
    refine iteT ⟨fun σ' H' => ∃ m', m' < muS n kvs (ws0 ++ [p]) ∧ WR H a R L b n rows m' σ' H', fun σ' H' h => h, ?_⟩
    have hL' : H3 L = some (.lst (ws0.map V.int ++ [.int p])) := by rw [hL, List.map_append]; rfl
    refine ⟨.inl ⟨rfl, _, SqL.of hL⟩, L, ws0.map V.int ++ [.int p], .int p, rfl, rfl, hL', by simp, ?_⟩
    have eH : upd H3 L (.lst (ws0.map V.int ++ [V.int p]).dropLast) = upd H3 L (.lst (ws0.map V.int)) := by rw [List.dropLast_concat]
    rw [eH]
    have hmu : muS n kvs (ws0 ++ [p]) = muS n kvs ws0 + 1 := by
      unfold muS
      rw [List.length_append, List.length_singleton]
      omega
    have hlen := hx.length
    rw [List.length_map] at hlen
    have hfew := hrw.few
    have sL : ∀ {H' : Hp} {ys : List V}, Same H H' → Same H (upd H' L (.lst ys)) := fun {H' ys} s b o e => by rw [upd_ne (ne_of_none e hLH)]; exact s b o e
    have sR : ∀ {H' : Hp} {ys : List (Key × V)}, Same H H' → Same H (upd H' R (.dK ys)) := fun {H' ys} s b o e => by rw [upd_ne (ne_of_none e n1)]; exact s b o e
    refine ⟨a, rfl, ⟨_, (sL s3).sqT ha⟩, ?_⟩
    refine for_it (walk_tup (xs := xs)) (fun i σ H' => ∃ (kvs' : List (Key × V)) (ws : List Int) (o5 o6 o7 o8 : Option V), σ = [some (.ref a), some (.int b), some (.ref R), some (.ref L), some (.int p), o5, o6, o7, o8] ∧ H' R = some (.dK kvs') ∧ H' L = some (.lst (ws.map V.int)) ∧ Srch n rows b kvs' ws (some (p, i)) ∧ muS n kvs' ws ≤ muS n kvs ws0 ∧ kvs'.length ≤ kvs.length + 30 * i ∧ Same H H')
      ⟨kvs, ws0, _, _, _, _, rfl, by rw [upd_ne hRL]; exact hR, upd_same, hS.take, Nat.le_refl _, by omega, sL s3⟩ (fun i σ H' _ ⟨_, _, _, _, _, _, _, _, _, _, _, _, s⟩ => s.sqT ha) ?_ ?_
    · rintro i x σ H4 H5 hi ⟨kvs', ws, o5, o6, o7, o8, rfl, hR4, hL4, hS4, hmu4, hk4, s4⟩ ⟨rfl, hxx⟩
      obtain ⟨d, hd, hdq⟩ := hx.get hxx
      obtain ⟨r, hr1, rfl⟩ : ∃ r, rows[i]? = some r ∧ rowD r = d := by
        rw [List.getElem?_map] at hd
        cases e : rows[i]? with
        | none => rw [e] at hd; cases hd
        | some r => rw [e] at hd; exact ⟨r, rfl, Option.some.inj hd⟩
      have hrm := List.mem_of_getElem? hr1
      obtain ⟨t, p1, q1, rfl, ht, hp1, hq1⟩ := row_at hdq
      refine ⟨t, _, rfl, s4.sqT ht, rfl, _, _, rfl, _, _, rfl, _, _, rfl, rfl, ?_⟩
      refine ⟨p1, _, rfl, .inr (s4.sqT hp1), rfl, flat_ints _, ?_⟩
      rw [if_neg (by decide), inV_int]
      refine ite2 (fun c => ?_) (fun c => ⟨kvs', ws, _, _, _, _, rfl, hR4, hL4, hS4.skip hr1 fun z => c (decide_eq_true z), hmu4, by omega, s4⟩)
      have hin := of_decide_eq_true c
      have hol := hrw.olen r hrm
      refine ⟨.inl ⟨rfl, _, SqL.of hL4⟩, ?_⟩
      refine ⟨q1, rfl, ⟨_, s4.sqT hq1⟩, fun D hD => ?_⟩
      have hDR : D ≠ R := fun z => by rw [z, hR4] at hD; cases hD
      have hDL : D ≠ L := fun z => by rw [z, hL4] at hD; cases hD
      refine lc_it (walk_tup (xs := r.2.2.map V.int)) (fun j H' => H' D = some (.lst (((r.2.2.take j).filter fun k => !inD kvs' k).map V.int)) ∧ ∀ b o, H5 b = some o → H' b = some o)
        ⟨upd_same, fun b o e => by rw [upd_ne (ne_of_none e hD)]; exact e⟩ (fun j H' _ ⟨_, kp⟩ => Same.sqT (s4.trans fun b o e => kp b o e) hq1) ?_ ?_
      · rintro j y H6 H7 hj ⟨hD6, kp⟩ ⟨rfl, hy⟩
        rw [List.getElem?_map] at hy
        cases c2 : r.2.2[j]? with
        | none => rw [c2] at hy; cases hy
        | some z =>
          rw [c2] at hy
          cases hy
          refine ⟨rfl, R, kvs', .inl z, rfl, rfl, kp _ _ hR4, ?_⟩
          refine ite2 (fun c3 => ?_) (fun c3 => ?_)
          · refine ⟨_, hD6, ?_, ?_, fun b o e => ?_⟩
            · rw [List.length_map, sizeLine_eq]
              have := List.length_filter_le (fun k => !inD kvs' k) (r.2.2.take j)
              rw [List.length_take] at this
              omega
            · rw [upd_same, List.take_add_one, c2, List.filter_append, List.map_append]
              have c3' : (!inD kvs' z) = true := c3
              have e1 : ([z] : List Int).filter (fun k => !inD kvs' k) = [z] := by rw [List.filter_cons, if_pos c3']; rfl
              show _ = some (HO.lst (_ ++ (([z] : List Int).filter (fun k => !inD kvs' k)).map V.int))
              rw [e1]
              rfl
            · rw [upd_ne (ne_of_none e hD)]
              exact kp b o e
          · refine ⟨?_, kp⟩
            rw [hD6, List.take_add_one, c2, List.filter_append]
            have c3' : (!inD kvs' z) = false := by
              cases q : (!inD kvs' z) with
              | false => rfl
              | true => exact absurd q c3
            have e1 : ([z] : List Int).filter (fun k => !inD kvs' k) = [] := by rw [List.filter_cons, if_neg (by rw [c3']; decide)]; rfl
            show _ = some (HO.lst ((_ ++ ([z] : List Int).filter (fun k => !inD kvs' k)).map V.int))
            rw [e1, List.append_nil]
      · rintro H6 ⟨hD6, kp⟩
        rw [List.length_map, List.take_length] at hD6
        have hnf := List.length_filter_le (fun k => !inD kvs' k) r.2.2
        have hmw : ws.length ≤ 31 * 30 + 31 := by
          have h1 := cnt_le n kvs
          have h2 : muS n kvs' ws ≤ 1200 * 931 := by omega
          have h3 : 1200 * muS n kvs' ws ≤ 1200 * 931 + 1 := by omega
          have h4 : ws.length ≤ muS n kvs' ws := by unfold muS; omega
          omega
        refine ⟨L, D, _, _, rfl, rfl, kp _ _ hL4, hD6, by rw [List.length_map, List.length_map, sizeLine_eq]; omega, ?_⟩
        have s6 : Same H H6 := s4.trans fun b o e => kp b o e
        have hR7 : upd H6 L (.lst (ws.map V.int ++ (r.2.2.filter fun k => !inD kvs' k).map V.int)) R = some (.dK kvs') := by rw [upd_ne hRL]; exact kp _ _ hR4
        have hL7 : upd H6 L (.lst (ws.map V.int ++ (r.2.2.filter fun k => !inD kvs' k).map V.int)) L = some (.lst ((ws ++ r.2.2.filter fun k => !inD kvs' k).map V.int)) := by rw [upd_same, List.map_append]
        have s7 : Same H (upd H6 L (.lst (ws.map V.int ++ (r.2.2.filter fun k => !inD kvs' k).map V.int))) := sL s6
        generalize upd H6 L (.lst (ws.map V.int ++ (r.2.2.filter fun k => !inD kvs' k).map V.int)) = H8 at hR7 hL7 s7 ⊢
        refine ⟨.inr (.inr (.inl ⟨rfl, .inl ⟨_, hR7⟩⟩)), ?_⟩
        refine ⟨q1, rfl, ⟨_, s7.sqT hq1⟩, fun D2 hD2 => ?_⟩
        refine dc_it (walk_tup (xs := r.2.2.map V.int)) (fun j H' => ∃ kv2 : List (Key × V), H' D2 = some (.dK kv2) ∧ (∀ k, inD kv2 k = decide (k ∈ r.2.2.take j)) ∧ kv2.length ≤ j ∧ ∀ b o, H8 b = some o → H' b = some o)
          ⟨[], upd_same, fun k => by simp [inD, valV_nil], Nat.le_refl _, fun b o e => by rw [upd_ne (ne_of_none e hD2)]; exact e⟩ (fun j H' _ ⟨_, _, _, _, kp2⟩ => Same.sqT (s7.trans fun b o e => kp2 b o e) hq1) ?_ ?_
        · rintro j y H9 H10 hj ⟨kv2, hD9, hin2, hl2, kp2⟩ ⟨rfl, hy⟩
          rw [List.getElem?_map] at hy
          cases c2 : r.2.2[j]? with
          | none => rw [c2] at hy; cases hy
          | some z =>
            rw [c2] at hy
            cases hy
            rw [List.length_map] at hj
            refine ⟨rfl, ?_⟩
            refine ⟨kv2, .inl z, rfl, hD9, by rw [sizeLine_eq]; omega, putK kv2 (.inl z) (.bl true), upd_same, fun k => ?_, by have := length_putK kv2 (.inl z) (.bl true); omega, fun b o e => ?_⟩
            · unfold inD
              rw [valV_put, List.take_add_one, c2]
              by_cases e : (Sum.inl k : Key) = .inl z
              · rw [if_pos e]
                cases e
                simp
              · rw [if_neg e]
                have ne : k ≠ z := fun q => e (by rw [q])
                have := hin2 k
                unfold inD at this
                rw [this]
                simp [ne]
            · rw [upd_ne (ne_of_none e hD2)]
              exact kp2 b o e
        · rintro H9 ⟨kv2, hD9, hin2, hl2, kp2⟩
          rw [List.length_map] at hl2
          have hD2R : R ≠ D2 := fun z => by rw [← z, hR7] at hD2; cases hD2
          rw [List.length_map, List.take_length] at hin2
          have s9 : Same H H9 := s7.trans fun b o e => kp2 b o e
          refine ⟨R, D2, kvs', kv2, rfl, rfl, kp2 _ _ hR7, hD9, hD2R, by omega, ?_⟩
          have hmk : ∀ k, inD (mergeK kvs' kv2) k = (inD kvs' k || decide (k ∈ r.2.2)) := fun k => by
            rw [← hin2 k]
            exact valV_merge (.inl k) kv2 kvs'
          refine ⟨mergeK kvs' kv2, ws ++ r.2.2.filter fun k => !inD kvs' k, _, _, _, _, rfl, upd_same, ?_, hS4.more hr1 hin hmk, ?_, ?_, sR s9⟩
          · rw [upd_ne (Ne.symm hRL)]
            exact kp2 _ _ hL7
          · exact Nat.le_trans (mu_more (hrw.out r hrm) hol hmk) hmu4
          · have := length_mergeK kv2 kvs'
            omega
    · rintro σ H4 ⟨kvs', ws, o5, o6, o7, o8, rfl, hR4, hL4, hS4, hmu4, hk4, s4⟩
      rw [hlen] at hS4 hk4
      exact ⟨_, by omega, kvs', ws, _, _, _, _, _, rfl, hR4, hL4, hS4.next, rfl, by omega, s4⟩
def spReachL (K : PySem.W.Frag) : Sp := fun vs H Q _ => ∃ (a : Addr) (b : Int) (n : Nat) (rows : List RowN) (xs : List V) (_ : 0 ≤ b) (_ : b < n) (_ : n ≤ 30), vs = [.ref a, .int b] ∧ RowsIn n rows ∧ SqL K H a xs ∧ DqAll K H xs (rows.map rowD) ∧
  ∀ R H' kvs, Same H H' → H R = none → H' R = some (.dK kvs) → (∀ k : Int, inD kvs k = true ↔ Reach rows b k) → Q (.ref R) H'
theorem ok_reachedL {f : Addr} {fd : FuncData} (F : Fun K "_reached" "_reached" s_reached f fd) : FnG P w K mg base CX0 1 f fd ["steps", "begin"] (spReachL K) := by
  have nd := sc_reached.nd
  refine okG F sc_reached (fun vs H Q E h => ?_) (fun cdv A outer s H vs Q E hr h => ?_)
  · obtain ⟨_, _, _, _, _, _, _, _, rfl, _⟩ := h
    rfl
  · obtain ⟨a, b, n, rows, xs, hb0, hb1, hn, rfl, hrw, ha, hx, k⟩ := h
    refine ⟨_, (pss_cons (ps_set (i := 2) nd rfl (by first | exact Or.inl rfl | exact Or.inr rfl) (pe_dct1 (av 1) pe_bl))
      (pss_cons (ps_set (i := 3) nd rfl (Or.inl rfl) (pe_lstS (pa_cons (av 1) pa_nil)))
      (pss_cons (ps_while PassesOwn.never (pt_truth (av 3) (by intro _; rfl)) (pss_cons (ps_set (i := 4) nd rfl (Or.inl rfl) (pe_bm0 PySem.F.plainAttrs_list PySem.F.slot_list_pop PySem.F.type_list_pop mt_pop (av 3)))
      (pss_one (ps_for PassesOwn.never rfl (pi_list (av 0)) (pg_tup rfl (pgs_cons (pg_name (i := 5) nd rfl (Or.inl rfl)) (pgs_cons (pg_name (i := 6) nd rfl (Or.inl rfl)) (pgs_cons (pg_name (i := 7) nd rfl (Or.inl rfl)) pgs_nil)))) (pss_one (ps_if (pt_cmpA op_in_seq (av 4) (av 6)) (pss_cons (ps_expr (pe_bm PySem.F.plainAttrs_list PySem.F.slot_list_extend PySem.F.type_list_extend mt_extend (av 3) (pa_cons (pe_lc (own := [("output", 8)]) (by rfl) nd (pi_tup (av 7)) (blkOk_by (N := ["steps", "begin", "reached", "waiting", "place", "_", "inputs", "outputs", "output"]) (sc := defScope s_reached) (by decide +kernel)) (fun _ _ _ _ _ => (pg_name (i := 8) nd rfl (Or.inl rfl))) (fun _ _ _ _ _ => (pts_one (pt_cmpA (op_notIn_dK hr.units64) (av 8) (av 2)))) (fun _ _ _ _ _ => (av 8))) pa_nil)))
      (pss_one (ps_expr (pe_bm PySem.F.plainAttrs_dict PySem.F.slot_dict_update PySem.F.type_dict_update mt_dupdate (av 2) (pa_cons (pe_dc (own := [("output", 8)]) (by rfl) nd (pi_tup (av 7)) (blkOk_by (N := ["steps", "begin", "reached", "waiting", "place", "_", "inputs", "outputs", "output"]) (sc := defScope s_reached) (by decide +kernel)) (fun _ _ _ _ _ => (pg_name (i := 8) nd rfl (Or.inl rfl))) (fun _ _ _ _ _ => pts_nil) (fun _ _ _ _ _ => (av 8)) (fun _ _ _ _ _ => pe_bl)) pa_nil))))) pss_nil))))))
      (pss_one (ps_ret (av 2)))))), ?_⟩
    refine ⟨b, rfl, fun R H1 s1 n1 l1 => ?_⟩
    refine ⟨by simp, fun L H2 s2 n2 l2 => ?_⟩
    have hRL : R ≠ L := fun z => by rw [← z, l1] at n2; cases n2
    have hLH : H L = none := s1.free n2
    refine ⟨WR H a R L b n rows, ⟨_, _, [b], _, _, _, _, _, rfl, s2 _ _ l1, l2, Srch.start, rfl, ?_, s1.trans s2⟩, ?_⟩
    · have := cnt_le n [(.inl b, V.bl true)]
      unfold muS
      simp only [List.length_cons, List.length_nil]
      omega
    rintro m σ H3 ⟨kvs, ws, o4, o5, o6, o7, o8, rfl, hR, hL, hS, rfl, hm, s3⟩
    refine ⟨!(ws.map V.int).isEmpty, .inl ⟨_, SqL.of hL, rfl⟩, ?_⟩
    rcases List.eq_nil_or_concat ws with rfl | ⟨ws0, p, rfl⟩
    · exact iteF (k R H3 kvs s3 n1 hR fun j => hS.end j)
    rw [List.concat_eq_append] at hL hS hm ⊢
    have e0 : (!((ws0 ++ [p]).map V.int).isEmpty) = true := by simp
    rw [e0]
    refine iteT ⟨fun σ' H' => ∃ m', m' < muS n kvs (ws0 ++ [p]) ∧ WR H a R L b n rows m' σ' H', fun σ' H' h => h, ?_⟩
    have hL' : H3 L = some (.lst (ws0.map V.int ++ [.int p])) := by rw [hL, List.map_append]; rfl
    refine ⟨.inl ⟨rfl, _, SqL.of hL⟩, L, ws0.map V.int ++ [.int p], .int p, rfl, rfl, hL', by simp, ?_⟩
    have eH : upd H3 L (.lst (ws0.map V.int ++ [V.int p]).dropLast) = upd H3 L (.lst (ws0.map V.int)) := by rw [List.dropLast_concat]
    rw [eH]
    have hmu : muS n kvs (ws0 ++ [p]) = muS n kvs ws0 + 1 := by
      unfold muS
      rw [List.length_append, List.length_singleton]
      omega
    have hlen := hx.length
    rw [List.length_map] at hlen
    have hfew := hrw.few
    have sL : ∀ {H' : Hp} {ys : List V}, Same H H' → Same H (upd H' L (.lst ys)) := fun {H' ys} s b o e => by rw [upd_ne (ne_of_none e hLH)]; exact s b o e
    have sR : ∀ {H' : Hp} {ys : List (Key × V)}, Same H H' → Same H (upd H' R (.dK ys)) := fun {H' ys} s b o e => by rw [upd_ne (ne_of_none e n1)]; exact s b o e
    refine ⟨a, rfl, ⟨_, (sL s3).sqL ha⟩, ?_⟩
    refine for_it (walk_list (xs := xs)) (fun i σ H' => ∃ (kvs' : List (Key × V)) (ws : List Int) (o5 o6 o7 o8 : Option V), σ = [some (.ref a), some (.int b), some (.ref R), some (.ref L), some (.int p), o5, o6, o7, o8] ∧ H' R = some (.dK kvs') ∧ H' L = some (.lst (ws.map V.int)) ∧ Srch n rows b kvs' ws (some (p, i)) ∧ muS n kvs' ws ≤ muS n kvs ws0 ∧ kvs'.length ≤ kvs.length + 30 * i ∧ Same H H')
      ⟨kvs, ws0, _, _, _, _, rfl, by rw [upd_ne hRL]; exact hR, upd_same, hS.take, Nat.le_refl _, by omega, sL s3⟩ (fun i σ H' _ ⟨_, _, _, _, _, _, _, _, _, _, _, _, s⟩ => s.sqL ha) ?_ ?_
    · rintro i x σ H4 H5 hi ⟨kvs', ws, o5, o6, o7, o8, rfl, hR4, hL4, hS4, hmu4, hk4, s4⟩ ⟨rfl, hxx⟩
      obtain ⟨d, hd, hdq⟩ := hx.get hxx
      obtain ⟨r, hr1, rfl⟩ : ∃ r, rows[i]? = some r ∧ rowD r = d := by
        rw [List.getElem?_map] at hd
        cases e : rows[i]? with
        | none => rw [e] at hd; cases hd
        | some r => rw [e] at hd; exact ⟨r, rfl, Option.some.inj hd⟩
      have hrm := List.mem_of_getElem? hr1
      obtain ⟨t, p1, q1, rfl, ht, hp1, hq1⟩ := row_at hdq
      refine ⟨t, _, rfl, s4.sqT ht, rfl, _, _, rfl, _, _, rfl, _, _, rfl, rfl, ?_⟩
      refine ⟨p1, _, rfl, .inr (s4.sqT hp1), rfl, flat_ints _, ?_⟩
      rw [if_neg (by decide), inV_int]
      refine ite2 (fun c => ?_) (fun c => ⟨kvs', ws, _, _, _, _, rfl, hR4, hL4, hS4.skip hr1 fun z => c (decide_eq_true z), hmu4, by omega, s4⟩)
      have hin := of_decide_eq_true c
      have hol := hrw.olen r hrm
      refine ⟨.inl ⟨rfl, _, SqL.of hL4⟩, ?_⟩
      refine ⟨q1, rfl, ⟨_, s4.sqT hq1⟩, fun D hD => ?_⟩
      have hDR : D ≠ R := fun z => by rw [z, hR4] at hD; cases hD
      have hDL : D ≠ L := fun z => by rw [z, hL4] at hD; cases hD
      refine lc_it (walk_tup (xs := r.2.2.map V.int)) (fun j H' => H' D = some (.lst (((r.2.2.take j).filter fun k => !inD kvs' k).map V.int)) ∧ ∀ b o, H5 b = some o → H' b = some o)
        ⟨upd_same, fun b o e => by rw [upd_ne (ne_of_none e hD)]; exact e⟩ (fun j H' _ ⟨_, kp⟩ => Same.sqT (s4.trans fun b o e => kp b o e) hq1) ?_ ?_
      · rintro j y H6 H7 hj ⟨hD6, kp⟩ ⟨rfl, hy⟩
        rw [List.getElem?_map] at hy
        cases c2 : r.2.2[j]? with
        | none => rw [c2] at hy; cases hy
        | some z =>
          rw [c2] at hy
          cases hy
          refine ⟨rfl, R, kvs', .inl z, rfl, rfl, kp _ _ hR4, ?_⟩
          refine ite2 (fun c3 => ?_) (fun c3 => ?_)
          · refine ⟨_, hD6, ?_, ?_, fun b o e => ?_⟩
            · rw [List.length_map, sizeLine_eq]
              have := List.length_filter_le (fun k => !inD kvs' k) (r.2.2.take j)
              rw [List.length_take] at this
              omega
            · rw [upd_same, List.take_add_one, c2, List.filter_append, List.map_append]
              have c3' : (!inD kvs' z) = true := c3
              have e1 : ([z] : List Int).filter (fun k => !inD kvs' k) = [z] := by rw [List.filter_cons, if_pos c3']; rfl
              show _ = some (HO.lst (_ ++ (([z] : List Int).filter (fun k => !inD kvs' k)).map V.int))
              rw [e1]
              rfl
            · rw [upd_ne (ne_of_none e hD)]
              exact kp b o e
          · refine ⟨?_, kp⟩
            rw [hD6, List.take_add_one, c2, List.filter_append]
            have c3' : (!inD kvs' z) = false := by
              cases q : (!inD kvs' z) with
              | false => rfl
              | true => exact absurd q c3
            have e1 : ([z] : List Int).filter (fun k => !inD kvs' k) = [] := by rw [List.filter_cons, if_neg (by rw [c3']; decide)]; rfl
            show _ = some (HO.lst ((_ ++ ([z] : List Int).filter (fun k => !inD kvs' k)).map V.int))
            rw [e1, List.append_nil]
      · rintro H6 ⟨hD6, kp⟩
        rw [List.length_map, List.take_length] at hD6
        have hnf := List.length_filter_le (fun k => !inD kvs' k) r.2.2
        have hmw : ws.length ≤ 31 * 30 + 31 := by
          have h1 := cnt_le n kvs
          have h2 : muS n kvs' ws ≤ 1200 * 931 := by omega
          have h3 : 1200 * muS n kvs' ws ≤ 1200 * 931 + 1 := by omega
          have h4 : ws.length ≤ muS n kvs' ws := by unfold muS; omega
          omega
        refine ⟨L, D, _, _, rfl, rfl, kp _ _ hL4, hD6, by rw [List.length_map, List.length_map, sizeLine_eq]; omega, ?_⟩
        have s6 : Same H H6 := s4.trans fun b o e => kp b o e
        have hR7 : upd H6 L (.lst (ws.map V.int ++ (r.2.2.filter fun k => !inD kvs' k).map V.int)) R = some (.dK kvs') := by rw [upd_ne hRL]; exact kp _ _ hR4
        have hL7 : upd H6 L (.lst (ws.map V.int ++ (r.2.2.filter fun k => !inD kvs' k).map V.int)) L = some (.lst ((ws ++ r.2.2.filter fun k => !inD kvs' k).map V.int)) := by rw [upd_same, List.map_append]
        have s7 : Same H (upd H6 L (.lst (ws.map V.int ++ (r.2.2.filter fun k => !inD kvs' k).map V.int))) := sL s6
        generalize upd H6 L (.lst (ws.map V.int ++ (r.2.2.filter fun k => !inD kvs' k).map V.int)) = H8 at hR7 hL7 s7 ⊢
        refine ⟨.inr (.inr (.inl ⟨rfl, .inl ⟨_, hR7⟩⟩)), ?_⟩
        refine ⟨q1, rfl, ⟨_, s7.sqT hq1⟩, fun D2 hD2 => ?_⟩
        refine dc_it (walk_tup (xs := r.2.2.map V.int)) (fun j H' => ∃ kv2 : List (Key × V), H' D2 = some (.dK kv2) ∧ (∀ k, inD kv2 k = decide (k ∈ r.2.2.take j)) ∧ kv2.length ≤ j ∧ ∀ b o, H8 b = some o → H' b = some o)
          ⟨[], upd_same, fun k => by simp [inD, valV_nil], Nat.le_refl _, fun b o e => by rw [upd_ne (ne_of_none e hD2)]; exact e⟩ (fun j H' _ ⟨_, _, _, _, kp2⟩ => Same.sqT (s7.trans fun b o e => kp2 b o e) hq1) ?_ ?_
        · rintro j y H9 H10 hj ⟨kv2, hD9, hin2, hl2, kp2⟩ ⟨rfl, hy⟩
          rw [List.getElem?_map] at hy
          cases c2 : r.2.2[j]? with
          | none => rw [c2] at hy; cases hy
          | some z =>
            rw [c2] at hy
            cases hy
            rw [List.length_map] at hj
            refine ⟨rfl, ?_⟩
            refine ⟨kv2, .inl z, rfl, hD9, by rw [sizeLine_eq]; omega, putK kv2 (.inl z) (.bl true), upd_same, fun k => ?_, by have := length_putK kv2 (.inl z) (.bl true); omega, fun b o e => ?_⟩
            · unfold inD
              rw [valV_put, List.take_add_one, c2]
              by_cases e : (Sum.inl k : Key) = .inl z
              · rw [if_pos e]
                cases e
                simp
              · rw [if_neg e]
                have ne : k ≠ z := fun q => e (by rw [q])
                have := hin2 k
                unfold inD at this
                rw [this]
                simp [ne]
            · rw [upd_ne (ne_of_none e hD2)]
              exact kp2 b o e
        · rintro H9 ⟨kv2, hD9, hin2, hl2, kp2⟩
          rw [List.length_map] at hl2
          have hD2R : R ≠ D2 := fun z => by rw [← z, hR7] at hD2; cases hD2
          rw [List.length_map, List.take_length] at hin2
          have s9 : Same H H9 := s7.trans fun b o e => kp2 b o e
          refine ⟨R, D2, kvs', kv2, rfl, rfl, kp2 _ _ hR7, hD9, hD2R, by omega, ?_⟩
          have hmk : ∀ k, inD (mergeK kvs' kv2) k = (inD kvs' k || decide (k ∈ r.2.2)) := fun k => by
            rw [← hin2 k]
            exact valV_merge (.inl k) kv2 kvs'
          refine ⟨mergeK kvs' kv2, ws ++ r.2.2.filter fun k => !inD kvs' k, _, _, _, _, rfl, upd_same, ?_, hS4.more hr1 hin hmk, ?_, ?_, sR s9⟩
          · rw [upd_ne (Ne.symm hRL)]
            exact kp2 _ _ hL7
          · exact Nat.le_trans (mu_more (hrw.out r hrm) hol hmk) hmu4
          · have := length_mergeK kv2 kvs'
            omega
    · rintro σ H4 ⟨kvs', ws, o5, o6, o7, o8, rfl, hR4, hL4, hS4, hmu4, hk4, s4⟩
      rw [hlen] at hS4 hk4
      exact ⟨_, by omega, kvs', ws, _, _, _, _, _, rfl, hR4, hL4, hS4.next, rfl, by omega, s4⟩
end
end K02

set_option Elab.async false
set_option linter.all false
set_option maxRecDepth 100000
set_option maxHeartbeats 4000000
namespace K02
open PySem L2 PySem.KX StX
/-! ### the defects as rows -/
def dStart (x : Str) : RowK := [.inr "start", .inr x]
def dEnd (x : Str) : RowK := [.inr "end", .inr x]
def dStep (x : Str) : RowK := [.inr "step", .inr x]
def dPlace (k : Int) : RowK := [.inr "place", .inl k]
def dChoice (x y : Str) : RowK := [.inr "choice", .inr x, .inr y]
def startsL (rows : List RowN) : List RowK := (rows.filter fun r => decide ((0 : Int) ∈ r.2.2)).map fun r => dStart r.1
def endsL (rows : List RowN) : List RowK := (rows.filter fun r => decide ((1 : Int) ∈ r.2.1)).map fun r => dEnd r.1
theorem net_at {K : PySem.W.Frag} {H : Hp} {v : V} {n : Int} {rows : List RowN} (h : Dq K H v (netOf n rows)) : ∃ na S xs, v = .ref na ∧ SqT K H na [.int n, .ref S] ∧ SqT K H S xs ∧ DqAll K H xs (rows.map rowD) := by
  cases h with
  | @tup na ys ds h1 h2 =>
    cases h2 with
    | cons a1 t1 =>
      cases t1 with
      | cons a2 t2 =>
        cases t2
        cases a1
        cases a2 with
        | @tup S xs _ b1 b2 => exact ⟨na, S, xs, rfl, h1, b1, b2⟩
theorem rows_snoc {H : Hp} {v : V} {r : RowK} : ∀ {vs : List V} {rs : List RowK}, RowsAt H vs rs → IsRow H v r → RowsAt H (vs ++ [v]) (rs ++ [r])
  | _, _, .nil, h => .cons h .nil
  | _, _, .cons h1 t, h => .cons h1 (rows_snoc t h)
theorem rows_app {H : Hp} : ∀ {vs us : List V} {rs qs : List RowK}, RowsAt H vs rs → RowsAt H us qs → RowsAt H (vs ++ us) (rs ++ qs)
  | _, _, _, _, .nil, h => h
  | _, _, _, _, .cons h1 t, h => .cons h1 (rows_app t h)
theorem rows_len {H : Hp} {vs : List V} {rs : List RowK} (h : RowsAt H vs rs) : vs.length = rs.length := Paired.length h
theorem row_of_map {rows : List RowN} {i : Nat} {d : PyData} (hd : (rows.map rowD)[i]? = some d) : ∃ r, rows[i]? = some r ∧ rowD r = d := by
  rw [List.getElem?_map] at hd
  cases e : rows[i]? with
  | none => rw [e] at hd; cases hd
  | some r => rw [e] at hd; exact ⟨r, rfl, Option.some.inj hd⟩
theorem hid_of {D : Addr} {H : Hp} {b : Addr} {o : HO} (hb : b ≠ D) (e : H b = some o) : hide [D] H b = some o := by
  rw [hide_in (fun z => hb (List.mem_singleton.mp z))]
  exact e
theorem take_filter {α : Type} {l : List α} {p : α → Bool} {i : Nat} {a : α} (h : l[i]? = some a) : (l.take (i + 1)).filter p = (l.take i).filter p ++ if p a = true then [a] else [] := by
  rw [List.take_add_one, h, List.filter_append]
  congr 1
  show [a].filter p = _
  rw [List.filter_cons]
  rfl
section
variable {P : Program} {w : World} {K : PySem.W.Frag} {mg : Str → Option Value} {base : Heap}
/-- a def of a net that hands back a new list of rows -/
def spRows (K : PySem.W.Frag) (f : Int → List RowN → List RowK) : Sp := fun vs H Q _ => ∃ (v : V) (n : Int) (rows : List RowN), vs = [v] ∧ Dq K H v (netOf n rows) ∧ GoodN n rows ∧
  ∀ a xs H', Same H H' → H a = none → H' a = some (.lst xs) → RowsAt H' xs (f n rows) → Q (.ref a) H'
abbrev s_end_defects : Stmt := top 19
abbrev N_ed : List Str := ["net", "starts", "ends", "name", "_", "outputs", "inputs"]
theorem sc_end_defects : FnScope N_ed ["net"] (defScope s_end_defects) := ⟨rfl, rfl, rfl, by decide +kernel, rfl, by decide +kernel, by decide +kernel⟩
theorem ok_end_defects {f : Addr} {fd : FuncData} (F : Fun K "_end_defects" "_end_defects" s_end_defects f fd) : FnG P w K mg base CX0 1 f fd ["net"] (spRows K fun _ rows => startsL rows ++ endsL rows) := by
  have nd := sc_end_defects.nd
  refine okG F sc_end_defects (fun vs H Q E h => ?_) (fun cdv A outer s H vs Q E hr h => ?_)
  · obtain ⟨_, _, _, rfl, _⟩ := h
    rfl
  · obtain ⟨v, n, rows, rfl, hv, hg, k⟩ := h
    refine ⟨_, (pss_cons (ps_setLc (i := 1) (own := [("name", 3), ("_", 4), ("outputs", 5)]) (by rfl) nd rfl rfl (sw_true rfl rfl rfl (by decide +kernel)) (pi_tup (pe_ixA (av 0) pe_int)) (blkOk_by (N := N_ed) (sc := defScope s_end_defects) (by decide +kernel)) (fun _ _ _ _ _ => (show PG _ _ (gTup K 3 (gCons (gName 3) (gCons (gName 4) (gCons (gName 5) gNil)))) from pg_tup rfl (pgs_cons (pg_name (i := 3) nd rfl (Or.inl rfl)) (pgs_cons (pg_name (i := 4) nd rfl (Or.inl rfl)) (pgs_cons (pg_name (i := 5) nd rfl (Or.inl rfl)) pgs_nil))))) (fun _ _ _ _ _ => (pts_one (show PT _ _ (aTest (tOp (rIn K false) (tC (.int 0)) (aVar 5))) from pt_cmpA op_in_seq pe_int (av 5)))) (fun _ _ _ _ _ => (pe_tupS (pa_cons pe_str (pa_cons (av 3) pa_nil)))))
      (pss_cons (ps_setLc (i := 2) (own := [("name", 3), ("inputs", 6), ("_", 4)]) (by rfl) nd rfl rfl (sw_true rfl rfl rfl (by decide +kernel)) (pi_tup (pe_ixA (av 0) pe_int)) (blkOk_by (N := N_ed) (sc := defScope s_end_defects) (by decide +kernel)) (fun _ _ _ _ _ => (show PG _ _ (gTup K 3 (gCons (gName 3) (gCons (gName 6) (gCons (gName 4) gNil)))) from pg_tup rfl (pgs_cons (pg_name (i := 3) nd rfl (Or.inl rfl)) (pgs_cons (pg_name (i := 6) nd rfl (Or.inl rfl)) (pgs_cons (pg_name (i := 4) nd rfl (Or.inl rfl)) pgs_nil))))) (fun _ _ _ _ _ => (pts_one (show PT _ _ (aTest (tOp (rIn K false) (tC (.int 1)) (aVar 6))) from pt_cmpA op_in_seq pe_int (av 6)))) (fun _ _ _ _ _ => (pe_tupS (pa_cons pe_str (pa_cons (av 3) pa_nil)))))
      (pss_one (ps_ret (pe_op op_addS (av 1) (av 2)))))), ?_⟩
    obtain ⟨na, S, xs, rfl, hna, hS, hx⟩ := net_at hv
    have hxl := hx.length
    rw [List.length_map] at hxl
    have hfew := hg.few
    have s0 : Same H H := Same.refl H
    refine .inr ⟨_, .ref S, s0.sqT hna, rfl, ?_⟩
    refine ⟨S, rfl, ⟨_, s0.sqT hS⟩, fun D1 hnD1 => ?_⟩
    refine lc_it (walk_tup (xs := xs)) (fun t H' => ∃ ac, H' D1 = some (.lst ac) ∧ RowsAt (hide [D1] H') ac (((rows.take t).filter (fun r : RowN => decide ((0 : Int) ∈ r.2.2))).map fun r => dStart r.1) ∧ ∀ b o, H b = some o → H' b = some o)
      ⟨[], upd_same, .nil, fun b o e => by rw [upd_ne (ne_of_none e hnD1)]; exact e⟩ (fun t H' _ ⟨_, _, _, kp⟩ => Same.sqT (s0.trans fun b o e => kp b o e) hS) ?_ ?_
    · rintro t x H2 H3 ht ⟨ac, hD2, hac, kp⟩ ⟨rfl, hx2⟩
      obtain ⟨d, hd, hdq⟩ := hx.get hx2
      obtain ⟨r, hr1, rfl⟩ := row_of_map hd
      obtain ⟨tt, p1, q1, rfl, htt, hp1, hq1⟩ := row_at hdq
      have s3 : Same H H3 := s0.trans fun b o e => kp b o e
      refine ⟨tt, _, rfl, s3.sqT htt, rfl, _, _, rfl, _, _, rfl, _, _, rfl, rfl, ?_⟩
      refine ⟨rfl, q1, _, rfl, .inr (s3.sqT hq1), rfl, flat_ints _, ?_⟩
      rw [if_neg (by decide), inV_int]
      refine ite2 (fun c => ?_) (fun c => ?_)
      · refine ⟨by simp, fun q H4 s4 n4 l4 => ?_⟩
        have hD4 := s4 _ _ hD2
        have hqD : q ≠ D1 := fun z => by rw [z, hD2] at n4; cases n4
        have hal := rows_len hac
        rw [List.length_map] at hal
        have hfl := List.length_filter_le (fun r : RowN => decide ((0 : Int) ∈ r.2.2)) (rows.take t)
        rw [List.length_take] at hfl
        refine ⟨ac, hD4, by rw [sizeLine_eq]; omega, ac ++ [.ref q], upd_same, ?_, fun b o e => ?_⟩
        · rw [hide_upd, take_filter hr1, if_pos c, List.map_append]
          exact rows_snoc (hac.same (hide_same s4)) ⟨q, rfl, hid_of hqD l4⟩
        · rw [upd_ne (ne_of_none e hnD1)]
          exact s4 _ _ (kp _ _ e)
      · refine ⟨ac, hD2, ?_, kp⟩
        rw [take_filter hr1, if_neg c, List.append_nil]
        exact hac
    rintro Ha ⟨ac1, hl1, hac1, kp1⟩
    rw [hxl, List.take_length] at hac1
    have sa : Same H Ha := s0.trans fun b o e => kp1 b o e
    refine .inr ⟨_, .ref S, sa.sqT hna, rfl, ?_⟩
    refine ⟨S, rfl, ⟨_, sa.sqT hS⟩, fun D2 hnD2 => ?_⟩
    refine lc_it (walk_tup (xs := xs)) (fun t H' => ∃ ac, H' D2 = some (.lst ac) ∧ RowsAt (hide [D2] H') ac (((rows.take t).filter (fun r : RowN => decide ((1 : Int) ∈ r.2.1))).map fun r => dEnd r.1) ∧ ∀ b o, Ha b = some o → H' b = some o)
      ⟨[], upd_same, .nil, fun b o e => by rw [upd_ne (ne_of_none e hnD2)]; exact e⟩ (fun t H' _ ⟨_, _, _, kp⟩ => Same.sqT (sa.trans fun b o e => kp b o e) hS) ?_ ?_
    · rintro t x H2 H3 ht ⟨ac, hD2, hac, kp⟩ ⟨rfl, hx2⟩
      obtain ⟨d, hd, hdq⟩ := hx.get hx2
      obtain ⟨r, hr1, rfl⟩ := row_of_map hd
      obtain ⟨tt, p1, q1, rfl, htt, hp1, hq1⟩ := row_at hdq
      have s3 : Same H H3 := sa.trans fun b o e => kp b o e
      refine ⟨tt, _, rfl, s3.sqT htt, rfl, _, _, rfl, _, _, rfl, _, _, rfl, rfl, ?_⟩
      refine ⟨rfl, p1, _, rfl, .inr (s3.sqT hp1), rfl, flat_ints _, ?_⟩
      rw [if_neg (by decide), inV_int]
      refine ite2 (fun c => ?_) (fun c => ?_)
      · refine ⟨by simp, fun q H4 s4 n4 l4 => ?_⟩
        have hD4 := s4 _ _ hD2
        have hqD : q ≠ D2 := fun z => by rw [z, hD2] at n4; cases n4
        have hal := rows_len hac
        rw [List.length_map] at hal
        have hfl := List.length_filter_le (fun r : RowN => decide ((1 : Int) ∈ r.2.1)) (rows.take t)
        rw [List.length_take] at hfl
        refine ⟨ac, hD4, by rw [sizeLine_eq]; omega, ac ++ [.ref q], upd_same, ?_, fun b o e => ?_⟩
        · rw [hide_upd, take_filter hr1, if_pos c, List.map_append]
          exact rows_snoc (hac.same (hide_same s4)) ⟨q, rfl, hid_of hqD l4⟩
        · rw [upd_ne (ne_of_none e hnD2)]
          exact s4 _ _ (kp _ _ e)
      · refine ⟨ac, hD2, ?_, kp⟩
        rw [take_filter hr1, if_neg c, List.append_nil]
        exact hac
    rintro Hb ⟨ac2, hl2, hac2, kp2⟩
    rw [hxl, List.take_length] at hac2
    have sb : Same H Hb := sa.trans fun b o e => kp2 b o e
    have r1 : RowsAt Hb ac1 (startsL rows) := (hac1.same hide_sub).same fun b o e => kp2 b o e
    have r2 : RowsAt Hb ac2 (endsL rows) := hac2.same hide_sub
    have e1 := rows_len r1
    have e2 := rows_len r2
    have f1 := List.length_filter_le (fun r : RowN => decide ((0 : Int) ∈ r.2.2)) rows
    have f2 := List.length_filter_le (fun r : RowN => decide ((1 : Int) ∈ r.2.1)) rows
    unfold startsL at e1
    unfold endsL at e2
    rw [List.length_map] at e1 e2
    exact .inl ⟨ac1, ac2, kp2 _ _ hl1, hl2, by omega, fun q Hc sc nc lc => k q _ Hc (sb.trans sc) (sb.free nc) lc ((rows_app r1 r2).same sc)⟩
end
end K02

set_option Elab.async false
set_option linter.all false
set_option maxRecDepth 100000
set_option maxHeartbeats 4000000
/-! enumerate over a tuple. -/
namespace EnT
open PySem PySem.Spec PyProof.Rows L2
theorem new_meets (t : Addr) (items : Array Value) :
    Meets (Builtin.«enumerate.__new__» ⟨[.type "enumerate", .ref t], []⟩) (fun _ R s => s.heap.IsTuple t items ∧
      R (.ok (.ret (.ref (s.heap.push { cls := .type "tuple_iterator", data := .fields #[.ref t, .int 0 0] }).objs.size))) { s with heap := (s.heap.push { cls := .type "tuple_iterator", data := .fields #[.ref t, .int 0 0] }).push { cls := .type "enumerate", data := .fields #[.none, .bool false, .ref s.heap.objs.size, rawInt 0, .none, .none] } }) :=
  .of_wp fun prog w A R s h => by
    obtain ⟨hp, g, d, tk, os⟩ := s
    obtain ⟨h1, h⟩ := h
    have hsub := sub_enumerate
    have go : ∀ {A' : Around} {E : Value → Shared → Prop} {Q : Value → Shared → Prop}, Q (.ref hp.objs.size) ⟨hp.push { cls := .type "tuple_iterator", data := .fields #[.ref t, .int 0 0] }, g, d, tk, os⟩ → wpAny (model prog w) A' (pyIter (.ref t)) Q E ⟨hp, g, d, tk, os⟩ :=
      fun q => (begins_tuple t items).iter prog w _ _ ⟨hp, g, d, tk, os⟩ _ h1 q
    wp_walk using go
    refine wpAny_stack_any fun st => wpAny_pure ?_
    split
    · rename_i c _ _ _ _ _
      cases (c == Value.type "enumerate") <;> (wp_walk using go; exact ⟨_, rfl, h⟩)
    · wp_walk using go
      exact ⟨_, rfl, h⟩
section
variable {prog : Program} {w : World} {A : Around} {E : Value → Shared → Prop} {s : Shared}
theorem call_new {t : Addr} {items : Array Value} {Q : Value → Shared → Prop} (hT : s.heap.IsTuple t items)
    (h : ∀ h', IsEnum h' (s.heap.objs.size + 1) s.heap.objs.size 0 .none → h'.IsTupleIter s.heap.objs.size t 0 → (∀ b o, s.heap.get? b = some o → h'.get? b = some o) → Q (.ref (s.heap.objs.size + 1)) { s with heap := h' }) :
    wpAny (model prog w) A (call (.type "enumerate") [.ref t]) Q E s := by
  refine callType_new F.called_enumerate (by decide) (F.typeCall_enumerate_1 _) (F.newCall_enumerate_1 _) (fun obj => F.args_object_init_2 obj _) F.entry_enumerate_new (new_meets t items) ⟨hT, ?_⟩
  have size1 : (s.heap.push { cls := .type "tuple_iterator", data := .fields #[.ref t, .int 0 0] }).objs.size = s.heap.objs.size + 1 := Heap.size_push ..
  have at1 := Heap.get?_push_size (s.heap.push { cls := .type "tuple_iterator", data := .fields #[.ref t, .int 0 0] }) (o := { cls := .type "enumerate", data := .fields #[.none, .bool false, .ref s.heap.objs.size, rawInt 0, .none, .none] }) rfl
  show _ ∧ _
  rw [size1] at at1 ⊢
  exact ⟨⟨_, at1, rfl⟩, h _ at1 ⟨_, Heap.get?_push_of_some _ (Heap.get?_push_size _ rfl), rfl, rfl⟩ fun b o x => Heap.get?_push_of_some _ (Heap.get?_push_of_some _ x)⟩
end
/-- the items of the tuple at a with their places, in new pairs -/
def ItT (K : PySem.W.Frag) (a : Addr) : It :=
  ⟨fun i H => ∃ (xs : List V) (x : V), SqT K H a xs ∧ xs[i]? = some x, fun i H v H' => ∃ T x, v = .ref T ∧ H T = none ∧ H' = upd H T (.tup [.int (i : Nat), x]) ∧ ∀ xs, SqT K H a xs → xs[i]? = some x, fun i H => ∃ xs : List V, SqT K H a xs ∧ xs.length = i⟩
theorem turn {P : Program} {w : World} {K : PySem.W.Frag} {elts : List Expr} {kk : Nat} {tpos : Pos} (a e it : Addr) :
    Turn P w K (.Tuple elts kk tpos) (ItT K a) [e, it] e (fun i h => (∃ old, IsEnum h e it ((i : Nat) : Int) old) ∧ h.IsTupleIter it a i ∧ e ≠ it) where
  mem := by simp
  obj := fun i h st b hb => by
    obtain ⟨⟨old, he⟩, ⟨o, ho, hc, hd⟩, _⟩ := st
    rcases (show b = e ∨ b = it by simpa using hb) with rfl | rfl
    · exact ⟨_, he, fun v q => nomatch q⟩
    · exact ⟨o, ho, fun v q => by rw [hd] at q; cases q⟩
  keep := fun i h h' st k => ⟨⟨st.1.choose, k e (by simp) _ st.1.choose_spec⟩, st.2.1.at fun o q => k it (by simp) o q, st.2.2⟩
  item := by
    intro X hP hw hK hc i pins s σ H E I hf st hg
    subst hP hw hK
    obtain ⟨⟨old, he⟩, hit, hne⟩ := st
    obtain ⟨xs, x, hq, hx⟩ := hg
    obtain ⟨its, rv, p, hz⟩ := I.tuple hq
    obtain ⟨u, hu, ru⟩ := rv.get hx
    have hel : e < s.heap.objs.size := Heap.lt_size he
    have hil : it < s.heap.objs.size := by obtain ⟨_, q, _⟩ := hit; exact Heap.lt_size q
    have ha1 : a ≠ it := fun z => by
      obtain ⟨o, h1, h2, _⟩ := id p
      obtain ⟨o', h1', h2', _⟩ := id hit
      rw [z, h1'] at h1
      cases h1
      rw [h2'] at h2
      exact absurd (Value.type.inj h2) (by decide)
    have ha2 : e ≠ a := fun z => by
      obtain ⟨o, h1, h2, _⟩ := id p
      have h1' := he
      unfold IsEnum at h1'
      rw [z, h1] at h1'
      cases h1'
      exact absurd (Value.type.inj h2) (by decide)
    have hlt : i < its.toArray.size := by
      rw [List.size_toArray]
      exact (List.getElem?_eq_some_iff.mp hu).1
    refine wpAny_pyNext_enum_itemD (Draws.tuple (A := X.A.in1) (I.ok.hd hc) it a ha1 its.toArray) he ⟨hit, p⟩ hlt hne (by simp [hne, ha2]) fun y h' tk hy ho st' hT hsz hk => ?_
    have ey : y = u := by
      have h2 : its.toArray[i]? = some u := by simpa using hu
      exact Option.some.inj (hy.symm.trans h2)
    subst ey
    refine ⟨_, rfl, wpAny_letOwnedTupleGo_enum (s := { s with heap := h', toks := tk + 1 }) ho fun h'' he' sb => ?_⟩
    have hT2 : h''.get? s.heap.objs.size = some { cls := .type "tuple", data := .seq #[.int i tk, y] } := (sb.2 _ (Nat.ne_of_gt hel)).trans hT
    have new : ObjOk X.prog X.w (upd H s.heap.objs.size (.tup [.int (i : Nat), x])) h'' s.heap.objs.size (.tup [.int (i : Nat), x]) :=
      ⟨by show 2 ≤ sizeLine; decide, [.int i tk, y], .cons ⟨_, rfl⟩ (.cons ru .nil), ⟨_, hT2, rfl, _, rfl⟩⟩
    have I1 : Inv X pins σ (upd H s.heap.objs.size (.tup [.int (i : Nat), x])) { s with heap := h'', toks := tk + 1 } :=
      I.turnedNew (ch := [e, it]) (fun b ob hb q => (sb.2 b (fun z => hb (by simp [z]))).trans (hk b ob (fun z => hb (by simp [z])) (fun z => hb (by simp [z])) q)) hf (Nat.le_refl _) new
    refine ⟨.ref s.heap.objs.size, _, I1, rfl, ⟨_, x, rfl, I.hok.fresh (Nat.le_refl _), rfl, fun ys hy2 => ?_⟩, ⟨⟨y, ?_⟩, st'.1.at fun o q => (sb.2 it (Ne.symm hne)).trans q, hne⟩, fun b hb => ?_⟩
    · rw [I.tuple_inj hy2 hq]
      exact hx
    · rw [show ((i + 1 : Nat) : Int) = (i : Int) + 1 by omega]
      exact he'
    · have hb' : b < s.heap.objs.size := by
        rcases (show b = e ∨ b = it by simpa using hb) with rfl | rfl
        · exact hel
        · exact hil
      rw [upd_ne (Nat.ne_of_lt hb')]
      exact (hf b hb).1
  done := by
    intro X hP hw hK hc i pins s σ H E I hf st hg
    subst hP hw hK
    obtain ⟨⟨old, he⟩, hit, hne⟩ := st
    obtain ⟨xs, hq, hx⟩ := hg
    obtain ⟨its, rv, p, hz⟩ := I.tuple hq
    obtain ⟨f0, f1, f2, f3, f4, f5⟩ := hf it (by simp)
    have hl := rv.length
    have ha1 : a ≠ it := fun z => by
      obtain ⟨o, h1, h2, _⟩ := id p
      obtain ⟨o', h1', h2', _⟩ := id hit
      rw [z, h1'] at h1
      cases h1
      rw [h2'] at h2
      exact absurd (Value.type.inj h2) (by decide)
    have ei : its.toArray.size = i := by
      rw [List.size_toArray]
      omega
    exact wpAny_pyNext_enum_endD (Draws.tuple (A := X.A.in1) (I.ok.hd hc) it a ha1 its.toArray) he ⟨by rw [ei]; exact hit, p⟩ fun h' eb => ⟨rfl, I.turned (t' := s.toks) (fun b o hb q => eb b o hb q) f0 f1 f3 f4 f5⟩
  self := fun A i s Q E st h => wpAny_pyIter_enum st.1.choose_spec h
def iEnumT (K : PySem.W.Frag) (ta : TA) : TI := fun σ H R => ta σ H fun vs H1 => ∃ a xs, vs = [.ref a] ∧ SqT K H1 a xs ∧ R (ItT K a) H1
theorem pi_enumT {X : Cx} {e : Expr} {ta : TA} {p pos tpos : Pos} {elts : List Expr} {kk : Nat} (hg : Gl X "enumerate") (hm : X.mg "enumerate" = none) (ha : PA X [e] ta) (hs : starEach [e] X.env = [(false, eval e X.env)] := by rfl) :
    PI X (.Tuple elts kk tpos) (.Call (.Name "enumerate" p) [e] [] pos) (iEnumT X.K ta) := by
  refine ⟨fun pins s σ H R I h => ?_⟩
  refine Call_ (ld_blt I hg hm boot_enumerate (PyProof.Rows.callWith_type1 (thn (ha.run pos pins s σ H _ I h) fun us s1 ⟨vs, H1, I1, r1, a, xs, ex, hq, q⟩ => ?_) hs rfl))
  subst ex
  obtain ⟨u, rfl, ru⟩ := r1.one
  cases ru
  obtain ⟨its, rv, p', hz⟩ := I1.tuple hq
  refine call_new p' fun h' he hit hk => wpAny_pyIter_enum he ?_
  have I2 : Inv X pins σ H1 { s1 with heap := h' } := I1.kept (t' := s1.toks) hk
  refine ⟨s1.heap.objs.size + 1, [s1.heap.objs.size + 1, s1.heap.objs.size], _, _, H1, rfl, I2, turn a (s1.heap.objs.size + 1) s1.heap.objs.size, ⟨⟨.none, he⟩, hit, Nat.succ_ne_self _⟩, fun b hb => ?_, q⟩
  have le : s1.heap.objs.size ≤ b := by
    rcases (show b = s1.heap.objs.size + 1 ∨ b = s1.heap.objs.size by simpa using hb) with rfl | rfl <;> omega
  exact I1.fpOk le (I1.hok.fresh le)
theorem walk {K : PySem.W.Frag} {a : Addr} {xs : List V} : Walk (ItT K a) xs.length (fun H => SqT K H a xs) (YPair (fun i => some (.int (i : Nat))) (fun i => xs[i]?)) := by
  constructor
  · intro i H hi h
    exact ⟨xs, xs[i], h, by simp [hi]⟩
  · intro H h
    exact ⟨xs, h, rfl⟩
  · rintro i H x H' hi h ⟨T, y, e1, e2, e3, k⟩
    exact ⟨T, .int (i : Nat), y, e1, e2, e3, rfl, k xs h⟩
end EnT

set_option Elab.async false
set_option linter.all false
set_option maxRecDepth 100000
set_option maxHeartbeats 4000000
namespace K02
open PySem L2 PySem.KX StX
def chB (r q : RowN) : Bool := (!decide (r.2.1 = q.2.1)) && r.2.1.any fun k => decide (k ∈ q.2.1)
def choicesAt (rows : List RowN) (i : Nat) : List RowK := match rows[i]? with
  | some r => ((rows.drop (i + 1)).filter (chB r)).map fun q => dChoice r.1 q.1
  | none => []
def choicesL (rows : List RowN) : List RowK := (List.range rows.length).flatMap (choicesAt rows)
theorem cut_fromV (xs : List V) (k : Nat) : cutV xs (some (k : Int)) none = xs.drop k := by
  unfold cutV
  rw [HT.sIx_none, HT.sIx_nat]
  rw [List.take_of_length_le (by simp)]
  by_cases h : k ≤ xs.length
  · rw [Nat.min_eq_left h]
  · rw [Nat.min_eq_right (by omega), List.drop_length, List.drop_of_length_le (by omega)]
theorem eqv_intsA : ∀ ns ms : List Int, PyData.eqvAll (ns.map PyData.int) (ms.map PyData.int) = decide (ns = ms)
  | [], [] => rfl
  | [], _ :: _ => rfl
  | _ :: _, [] => rfl
  | n :: ns, m :: ms => by
    have h : PyData.eqv (.int n) (.int m) = decide (n = m) := rfl
    show (PyData.eqv (.int n) (.int m) && PyData.eqvAll (ns.map PyData.int) (ms.map PyData.int)) = _
    rw [h, eqv_intsA ns ms]
    by_cases h1 : n = m <;> by_cases h2 : ns = ms <;> simp [h1, h2]
theorem eqv_tupI (ns ms : List Int) : PyData.eqv (tupI ns) (tupI ms) = decide (ns = ms) := by
  show PyData.eqvAll (ns.map PyData.int) (ms.map PyData.int) = _
  exact eqv_intsA ns ms
theorem dp_ints {K : PySem.W.Frag} {H : Hp} : ∀ ns : List Int, DpAll K H (ns.map V.int) (ns.map PyData.int)
  | [] => .nil
  | n :: r => .cons (.int n) (dp_ints r)
theorem shaped_ints (ns : List Int) : SeqAt.shaped (tupI ns) = true := by
  have := ints_shaped ns
  unfold SeqAt.shaped at this ⊢
  simpa [PyData.canLay0, PyData.depth] using this
theorem sqT_hide {K : PySem.W.Frag} {H : Hp} {L a : Addr} {ys xs : List V} (hL : H L = some (.lst ys)) (h : SqT K H a xs) : SqT K (hide [L] H) a xs := by
  rcases h with (hs | ⟨o, hs⟩) | hs
  · exact .inl (.inl (hid_of (fun z => by rw [z, hL] at hs; cases hs) hs))
  · exact .inl (.inr ⟨o, hid_of (fun z => by rw [z, hL] at hs; cases hs) hs⟩)
  · exact .inr hs
abbrev s_choice_defects : Stmt := top 20
abbrev N_cd : List Str := ["net", "steps", "defects", "at", "first", "inputs", "_", "second", "others"]
theorem sc_choice_defects : FnScope N_cd ["net"] (defScope s_choice_defects) := ⟨rfl, rfl, rfl, by decide +kernel, rfl, by decide +kernel, by decide +kernel⟩
section
variable {P : Program} {w : World} {K : PySem.W.Frag} {mg : Str → Option Value} {base : Heap}
theorem ok_choice_defects {f : Addr} {fd : FuncData} (F : Fun K "_choice_defects" "_choice_defects" s_choice_defects f fd) (hen : mg "enumerate" = none) (Ohave_common : Own P w K mg base CX0 "have_common" 1 ["places", "others"] (spCommon K)) : FnG P w K mg base CX0 2 f fd ["net"] (spRows K fun _ rows => choicesL rows) := by
  have nd := sc_choice_defects.nd
  refine okG F sc_choice_defects (fun vs H Q E h => ?_) (fun cdv A outer s H vs Q E hr h => ?_)
  · obtain ⟨_, _, _, rfl, _⟩ := h
    rfl
  · obtain ⟨v, n, rows, rfl, hv, hg, k⟩ := h
    refine ⟨_, (pss_cons (ps_set (i := 1) nd rfl (Or.inl rfl) (pe_ixA (av 0) pe_int))
      (pss_cons (ps_set (i := 2) nd rfl (Or.inl rfl) (pe_lstS pa_nil))
      (pss_cons (ps_for PassesOwn.never rfl (EnT.pi_enumT (by rfl) hen (pa_cons (av 1) pa_nil)) (pg_tup rfl (pgs_cons (pg_name (i := 3) nd rfl (Or.inl rfl)) (pgs_cons (pg_tup rfl (pgs_cons (pg_name (i := 4) nd rfl (Or.inl rfl)) (pgs_cons (pg_name (i := 5) nd rfl (Or.inl rfl)) (pgs_cons (pg_name (i := 6) nd rfl (Or.inl rfl)) pgs_nil)))) pgs_nil))) (pss_one (ps_for PassesOwn.never rfl (pi_tup (pe_slice sl_tupS (av 1) (po_some (pe_op op_addA (av 3) pe_int)) po_none)) (pg_tup rfl (pgs_cons (pg_name (i := 7) nd rfl (Or.inl rfl)) (pgs_cons (pg_name (i := 8) nd rfl (Or.inl rfl)) (pgs_cons (pg_name (i := 6) nd rfl (Or.inl rfl)) pgs_nil)))) (pss_one (ps_if (PW.pt (pw_and (pt_cmpA (op_neA hr.units64) (av 5) (av 8)) (pw_and1 (pt_valA (pe_own Ohave_common hr (pa_cons (av 5) (pa_cons (av 8) pa_nil)) (by decide)))))) (pss_one (ps_expr (pe_appS (av 2) (pe_tupS (pa_cons pe_str (pa_cons (av 4) (pa_cons (av 7) pa_nil))))))) pss_nil)))))
      (pss_one (ps_ret (av 2)))))), ?_⟩
    obtain ⟨na, S, xs, rfl, hna, hS, hx⟩ := net_at hv
    have hxl := hx.length
    rw [List.length_map] at hxl
    have hfew := hg.few
    refine .inr ⟨_, .ref S, hna, rfl, ?_⟩
    refine ⟨by simp, fun L H1 s1 n1 l1 => ?_⟩
    refine ⟨S, xs, rfl, s1.sqT hS, ?_⟩
    have sL : ∀ {H' : Hp} {ys : List V}, Same H H' → Same H (upd H' L (.lst ys)) := fun {H' ys} s b o e => by rw [upd_ne (ne_of_none e n1)]; exact s b o e
    refine for_it EnT.walk (fun i σ H' => ∃ (ac : List V) (o3 o4 o5 o6 o7 o8 : Option V), σ = [some (.ref na), some (.ref S), some (.ref L), o3, o4, o5, o6, o7, o8] ∧ H' L = some (.lst ac) ∧ RowsAt (hide [L] H') ac ((List.range i).flatMap (choicesAt rows)) ∧ ac.length ≤ 40 * i ∧ Same H H')
      ⟨[], _, _, _, _, _, _, rfl, l1, .nil, by simp, s1⟩ (fun i σ H' _ ⟨_, _, _, _, _, _, _, _, _, _, _, s⟩ => s.sqT hS) ?_ ?_
    · rintro i x σ H2 H3 hi ⟨ac, o3, o4, o5, o6, o7, o8, rfl, hL2, hac, hal, s2⟩ ⟨T, x1, y1, rfl, nT, rfl, e1, hxx⟩
      cases e1
      obtain ⟨d, hd, hdq⟩ := hx.get hxx
      obtain ⟨r, hr1, rfl⟩ := row_of_map hd
      obtain ⟨t, p1, q1, rfl, ht, hp1, hq1⟩ := row_at hdq
      have sT : Same H2 (upd H2 T (.tup [.int (i : Nat), .ref t])) := (Same.refl _).new nT
      have lT : upd H2 T (.tup [.int (i : Nat), .ref t]) T = some (.tup [.int (i : Nat), .ref t]) := upd_same
      generalize upd H2 T (.tup [.int (i : Nat), .ref t]) = H4 at sT lT ⊢
      have s4 := s2.trans sT
      refine ⟨T, _, rfl, SqT.of lT, rfl, _, _, rfl, _, _, rfl, t, _, rfl, s4.sqT ht, rfl, _, _, rfl, _, _, rfl, _, _, rfl, rfl, rfl, ?_⟩
      refine ⟨(i : Int) + 1, rfl, S, xs, rfl, s4.sqT hS, fun S2 H5 s5 hS2 => ?_⟩
      have ecut : cutV xs (some ((i : Int) + 1)) none = xs.drop (i + 1) := cut_fromV xs (i + 1)
      rw [ecut] at hS2
      have s45 := s4.trans s5
      have hL5 : H5 L = some (.lst ac) := s5 _ _ (sT _ _ hL2)
      have hac5 : RowsAt (hide [L] H5) ac ((List.range i).flatMap (choicesAt rows)) := hac.same (hide_same (sT.trans s5))
      refine ⟨S2, rfl, ⟨_, hS2⟩, ?_⟩
      refine for_it (walk_tup (xs := xs.drop (i + 1))) (fun j σ H' => ∃ (ac' : List V) (o6 o7 o8 : Option V), σ = [some (.ref na), some (.ref S), some (.ref L), some (.int (i : Nat)), some (.str r.1), some (.ref p1), o6, o7, o8] ∧ H' L = some (.lst ac') ∧
          RowsAt (hide [L] H') ac' ((List.range i).flatMap (choicesAt rows) ++ (((rows.drop (i + 1)).take j).filter (chB r)).map fun q => dChoice r.1 q.1) ∧ ac'.length ≤ ac.length + j ∧ Same H H' ∧ SqT K H' S2 (xs.drop (i + 1)))
        ⟨ac, _, _, _, rfl, hL5, by simpa using hac5, by omega, s45, hS2⟩ (fun j σ H' _ ⟨_, _, _, _, _, _, _, _, _, h⟩ => h) ?_ ?_
      · rintro j y σ H6 H7 hj ⟨ac', o6, o7, o8, rfl, hL6, hac6, hal6, s6, hS6⟩ ⟨rfl, hyy⟩
        rw [List.getElem?_drop] at hyy
        obtain ⟨d2, hd2, hdq2⟩ := hx.get hyy
        obtain ⟨r2, hr2, rfl⟩ := row_of_map hd2
        obtain ⟨t2, p2, q2, rfl, ht2, hp2, hq2⟩ := row_at hdq2
        refine ⟨t2, _, rfl, s6.sqT ht2, rfl, _, _, rfl, _, _, rfl, _, _, rfl, rfl, ?_⟩
        refine ⟨tupI r.2.1, tupI r2.2.1, .tup (s6.sqT hp1) (dp_ints _), .tup (s6.sqT hp2) (dp_ints _), shaped_ints _, shaped_ints _, ?_⟩
        rw [eqv_tupI]
        have hrow2 : (rows.drop (i + 1))[j]? = some r2 := by rw [List.getElem?_drop]; exact hr2
        have skip : chB r r2 = false → ∃ (ac' : List V) (o6 o7 o8 : Option V), [some (.ref na), some (.ref S), some (.ref L), some (.int (i : Nat)), some (.str r.1), some (.ref p1), some (.ref q2), some (.str r2.1), some (.ref p2)] = [some (.ref na), some (.ref S), some (.ref L), some (.int (i : Nat)), some (.str r.1), some (.ref p1), o6, o7, o8] ∧ H7 L = some (.lst ac') ∧
          RowsAt (hide [L] H7) ac' ((List.range i).flatMap (choicesAt rows) ++ (((rows.drop (i + 1)).take (j + 1)).filter (chB r)).map fun q => dChoice r.1 q.1) ∧ ac'.length ≤ ac.length + (j + 1) ∧ Same H H7 ∧ SqT K H7 S2 (xs.drop (i + 1)) := fun c => ⟨ac', _, _, _, rfl, hL6, by rw [take_filter hrow2, if_neg (by rw [c]; decide), List.append_nil]; exact hac6, by omega, s6, hS6⟩
        refine ite2 (fun c => ?_) (fun c => ?_)
        · have ne : (!decide (r.2.1 = r2.2.1)) = true := c
          refine ⟨p1, p2, r.2.1, fun k => decide (k ∈ r2.2.1), rfl, s6.sqT hp1, by have := (hg.row r (List.mem_of_getElem? hr1)).i.few hg.hi; omega, .inl ⟨r2.2.1, s6.sqT hp2, fun _ => rfl⟩, fun H8 s8 => ?_⟩
          have s68 := s6.trans s8
          have hL8 := s8 _ _ hL6
          have hac8 : RowsAt (hide [L] H8) ac' _ := hac6.same (hide_same s8)
          refine ite2 (fun c2 => ?_) (fun c2 => ?_)
          · have yes : chB r r2 = true := by
              unfold chB
              rw [ne, Bool.true_and]
              exact c2
            refine ⟨L, ac', rfl, hL8, ?_⟩
            refine ⟨by simp, fun q H9 s9 n9 l9 => ?_⟩
            have hL9 := s9 _ _ hL8
            have hqL : q ≠ L := fun z => by rw [z, hL8] at n9; cases n9
            have hjl : j < 40 := by rw [List.length_drop] at hj; omega
            have s69 := s68.trans s9
            refine ⟨ac', hL9, by omega, ac' ++ [.ref q], _, _, _, rfl, upd_same, ?_, by simp; omega, sL s69, ?_⟩
            · rw [hide_upd, take_filter hrow2, if_pos yes, List.map_append, ← List.append_assoc]
              exact rows_snoc (hac8.same (hide_same s9)) ⟨q, rfl, hid_of hqL l9⟩
            · refine Same.sqT (H := hide [L] H7) (fun b o e => ?_) (sqT_hide hL6 hS6)
              obtain ⟨e1, e2⟩ := hide_of e
              have hb : b ≠ L := fun z => e2 (List.mem_singleton.mpr z)
              rw [upd_ne hb]
              exact s9 _ _ (s8 _ _ e1)
          · have no : chB r r2 = false := by
              unfold chB
              rw [ne, Bool.true_and]
              cases q : r.2.1.any fun k => decide (k ∈ r2.2.1) with
              | false => rfl
              | true => exact absurd q c2
            exact ⟨ac', _, _, _, rfl, hL8, by rw [take_filter hrow2, if_neg (by rw [no]; decide), List.append_nil]; exact hac8, by omega, s68, s8.sqT hS6⟩
        · exact skip (by
            unfold chB
            have c' : (!decide (r.2.1 = r2.2.1)) = false := by
              cases q : (!decide (r.2.1 = r2.2.1)) with
              | false => rfl
              | true => exact absurd q c
            rw [c']
            rfl)
      · rintro σ H6 ⟨ac', o6, o7, o8, rfl, hL6, hac6, hal6, s6, hS6⟩
        refine ⟨ac', _, _, _, _, _, _, rfl, hL6, ?_, ?_, s6⟩
        · have e : (List.range (i + 1)).flatMap (choicesAt rows) = (List.range i).flatMap (choicesAt rows) ++ ((rows.drop (i + 1)).filter (chB r)).map fun q => dChoice r.1 q.1 := by
            rw [List.range_succ, List.flatMap_append]
            congr 1
            show choicesAt rows i ++ [] = _
            rw [List.append_nil]
            unfold choicesAt
            rw [hr1]
          rw [e]
          have hl2 : (xs.drop (i + 1)).length = (rows.drop (i + 1)).length := by rw [List.length_drop, List.length_drop, hxl]
          rw [hl2, List.take_length] at hac6
          exact hac6
        · rw [List.length_drop] at hal6
          omega
    · rintro σ H2 ⟨ac, o3, o4, o5, o6, o7, o8, rfl, hL2, hac, hal, s2⟩
      refine k L ac H2 s2 n1 hL2 ?_
      have := hac.same hide_sub
      rw [hxl] at this
      exact this
end
end K02

set_option Elab.async false
set_option linter.all false
set_option maxRecDepth 100000
set_option maxHeartbeats 4000000
namespace K02
open PySem L2 PySem.KX StX
open Classical in
noncomputable def reachB (rows : List RowN) (b k : Int) : Bool := decide (Reach rows b k)
noncomputable def badP (rows : List RowN) (k : Int) : Bool := !reachB rows 0 k || !reachB (rows.map flipR) 1 k
noncomputable def badR (rows : List RowN) (r : RowN) : Bool := !(r.2.1.any (reachB rows 0)) || !(r.2.2.any (reachB (rows.map flipR) 1))
noncomputable def placesL (n : Int) (rows : List RowN) : List RowK := (((List.range n.toNat).map fun i : Nat => (i : Int)).filter (badP rows)).map dPlace
noncomputable def stepsL (rows : List RowN) : List RowK := (rows.filter (badR rows)).map fun r => dStep r.1
open Classical in
theorem reachB_of {rows : List RowN} {b : Int} {kvs : List (Key × V)} (h : ∀ k : Int, inD kvs k = true ↔ Reach rows b k) (k : Int) : inD kvs k = reachB rows b k := by
  unfold reachB
  by_cases r : Reach rows b k
  · rw [(h k).mpr r, decide_eq_true r]
  · rw [decide_eq_false r]
    cases c : inD kvs k with
    | false => rfl
    | true => exact absurd ((h k).mp c) r
theorem good_in {n : Int} {rows : List RowN} (hg : GoodN n rows) : RowsIn n.toNat rows := by
  have h2 := hg.lo
  refine ⟨hg.few, fun r hr k hk => ?_, fun r hr => (hg.row r hr).o.few hg.hi, fun r hr => (hg.row r hr).i.few hg.hi⟩
  have := (hg.row r hr).o.inn k hk
  omega
theorem good_flip {n : Int} {rows : List RowN} (hg : GoodN n rows) : RowsIn n.toNat (rows.map flipR) := by
  have h2 := hg.lo
  have go : ∀ r ∈ rows.map flipR, ∃ q ∈ rows, r.2.1 = q.2.2 ∧ r.2.2 = q.2.1 := fun r hr => by
    obtain ⟨q, hq, rfl⟩ := List.mem_map.mp hr
    exact ⟨q, hq, rfl, rfl⟩
  refine ⟨by rw [List.length_map]; exact hg.few, fun r hr k hk => ?_, fun r hr => ?_, fun r hr => ?_⟩
  · obtain ⟨q, hq, e1, e2⟩ := go r hr
    rw [e2] at hk
    have := (hg.row q hq).i.inn k hk
    omega
  · obtain ⟨q, hq, e1, e2⟩ := go r hr
    rw [e2]
    exact (hg.row q hq).i.few hg.hi
  · obtain ⟨q, hq, e1, e2⟩ := go r hr
    rw [e1]
    exact (hg.row q hq).o.few hg.hi
theorem bfalse {x : Bool} (h : ¬ (!x) = true) : x = true := by
  cases x with
  | true => rfl
  | false => exact absurd rfl h
abbrev s_path_defects : Stmt := top 22
abbrev N_pd : List Str := ["net", "places", "steps", "ahead", "behind", "missed", "name", "inputs", "outputs", "place"]
theorem sc_path_defects : FnScope N_pd ["net"] (defScope s_path_defects) := ⟨rfl, rfl, rfl, by decide +kernel, rfl, by decide +kernel, by decide +kernel⟩
section
variable {P : Program} {w : World} {K : PySem.W.Frag} {mg : Str → Option Value} {base : Heap}
theorem ok_path_defects {f : Addr} {fd : FuncData} (F : Fun K "_path_defects" "_path_defects" s_path_defects f fd) (hrange : mg "range" = none) (Ohave_common : Own P w K mg base CX0 "have_common" 1 ["places", "others"] (spCommon K)) (OrT : Own P w K mg base CX0 "_reached" 1 ["steps", "begin"] (spReachT K)) (OrL : Own P w K mg base CX0 "_reached" 1 ["steps", "begin"] (spReachL K)) :
    FnG P w K mg base CX0 2 f fd ["net"] (spRows K fun n rows => placesL n rows ++ stepsL rows) := by
  have nd := sc_path_defects.nd
  refine okG F sc_path_defects (fun vs H Q E h => ?_) (fun cdv A outer s H vs Q E hr h => ?_)
  · obtain ⟨_, _, _, rfl, _⟩ := h
    rfl
  · obtain ⟨v, n, rows, rfl, hv, hg, k⟩ := h
    refine ⟨_, (pss_cons (ps_asg (av 0) (pg_tup rfl (pgs_cons (pg_name (i := 1) nd rfl (Or.inl rfl)) (pgs_cons (pg_name (i := 2) nd rfl (Or.inl rfl)) pgs_nil))))
      (pss_cons (ps_set (i := 3) nd rfl (by first | exact Or.inl rfl | exact Or.inr rfl) (pe_own OrT hr (pa_cons (av 2) (pa_cons pe_int pa_nil)) (by decide)))
      (pss_cons (ps_set (i := 4) nd rfl (by first | exact Or.inl rfl | exact Or.inr rfl) (pe_own OrL hr (pa_cons (pe_lc (own := [("name", 6), ("inputs", 7), ("outputs", 8)]) (by rfl) nd (pi_tup (av 2)) (blkOk_by (N := N_pd) (sc := defScope s_path_defects) (by decide +kernel)) (fun _ _ _ _ _ => (show PG _ _ (gTup K 3 (gCons (gName 6) (gCons (gName 7) (gCons (gName 8) gNil)))) from pg_tup rfl (pgs_cons (pg_name (i := 6) nd rfl (Or.inl rfl)) (pgs_cons (pg_name (i := 7) nd rfl (Or.inl rfl)) (pgs_cons (pg_name (i := 8) nd rfl (Or.inl rfl)) pgs_nil))))) (fun _ _ _ _ _ => pts_nil) (fun _ _ _ _ _ => (pe_tupS (pa_cons (av 6) (pa_cons (av 8) (pa_cons (av 7) pa_nil)))))) (pa_cons pe_int pa_nil)) (by decide)))
      (pss_cons (ps_setLc (i := 5) (own := [("place", 9)]) (by rfl) nd rfl rfl (sw_true rfl rfl rfl (by decide +kernel)) (pi_range1 (by rfl) hrange (pa_cons (av 1) pa_nil)) (blkOk_by (N := N_pd) (sc := defScope s_path_defects) (by decide +kernel)) (fun _ _ _ _ _ => (pg_name (i := 9) nd rfl (Or.inl rfl))) (fun _ _ _ _ _ => (pts_one (PW.pt (pw_or (pt_cmpA (op_notIn_dK hr.units64) (av 9) (av 3)) (pw_or1 (pt_cmpA (op_notIn_dK hr.units64) (av 9) (av 4))))))) (fun _ _ _ _ _ => (pe_tupS (pa_cons pe_str (pa_cons (av 9) pa_nil)))))
      (pss_cons (ps_for PassesOwn.never rfl (pi_tup (av 2)) (pg_tup rfl (pgs_cons (pg_name (i := 6) nd rfl (Or.inl rfl)) (pgs_cons (pg_name (i := 7) nd rfl (Or.inl rfl)) (pgs_cons (pg_name (i := 8) nd rfl (Or.inl rfl)) pgs_nil)))) (pss_one (ps_if (PW.pt (pw_or (pt_not (pt_valA (pe_own Ohave_common hr (pa_cons (av 7) (pa_cons (av 3) pa_nil)) (by decide)))) (pw_or1 (pt_not (pt_valA (pe_own Ohave_common hr (pa_cons (av 8) (pa_cons (av 4) pa_nil)) (by decide))))))) (pss_one (ps_expr (pe_appS (av 5) (pe_tupS (pa_cons pe_str (pa_cons (av 6) pa_nil)))))) pss_nil)))
      (pss_one (ps_ret (av 5)))))))), ?_⟩
    obtain ⟨na, S, xs, rfl, hna, hS, hx⟩ := net_at hv
    have hxl := hx.length
    rw [List.length_map] at hxl
    have hfew := hg.few
    have h2 := hg.lo
    have h30 := hg.hi
    refine ⟨na, _, rfl, hna, rfl, _, _, rfl, _, _, rfl, rfl, ?_⟩
    refine ⟨S, 0, n.toNat, rows, xs, by omega, by omega, by omega, rfl, good_in hg, hS, hx, fun R H1 kva s1 n1 l1 hka => ?_⟩
    refine ⟨S, rfl, ⟨_, s1.sqT hS⟩, fun D hD => ?_⟩
    refine lc_it (walk_tup (xs := xs)) (fun t H' => ∃ ac, H' D = some (.lst ac) ∧ DqAll K (hide [D] H') ac (((rows.take t).map flipR).map rowD) ∧ ∀ b o, H1 b = some o → H' b = some o)
      ⟨[], upd_same, .nil, fun b o e => by rw [upd_ne (ne_of_none e hD)]; exact e⟩ (fun t H' _ ⟨_, _, _, kp⟩ => Same.sqT (s1.trans fun b o e => kp b o e) hS) ?_ ?_
    · rintro t x H2 H3 ht ⟨ac, hD2, hac, kp⟩ ⟨rfl, hx2⟩
      obtain ⟨d, hd, hdq⟩ := hx.get hx2
      obtain ⟨r, hr1, rfl⟩ := row_of_map hd
      obtain ⟨tt, p1, q1, rfl, htt, hp1, hq1⟩ := row_at hdq
      have s3 : Same H H3 := s1.trans fun b o e => kp b o e
      refine ⟨tt, _, rfl, s3.sqT htt, rfl, _, _, rfl, _, _, rfl, _, _, rfl, rfl, ?_⟩
      refine ⟨rfl, by simp, fun q H4 s4 n4 l4 => ?_⟩
      have hD4 := s4 _ _ hD2
      have hqD : q ≠ D := fun z => by rw [z, hD2] at n4; cases n4
      have hal := hac.length
      rw [List.length_map, List.length_map, List.length_take] at hal
      refine ⟨ac, hD4, by rw [sizeLine_eq]; omega, ac ++ [.ref q], upd_same, ?_, fun b o e => ?_⟩
      · rw [hide_upd, List.take_add_one, hr1, List.map_append, List.map_append]
        refine DqAll_snoc (DqAll.same (hide_same s4) _ _ hac) ?_
        have s04 : Same H H4 := s3.trans s4
        have hd0 : H D = none := s1.free hD
        have hsub : Same H (hide [D] H4) := fun b o e => hid_of (fun z => by rw [z, hd0] at e; cases e) (s04 _ _ e)
        exact .tup (SqT.of (hid_of hqD l4)) (.cons (.str _) (.cons (.tup (hsub.sqT hq1) ints_dq) (.cons (.tup (hsub.sqT hp1) ints_dq) .nil)))
      · rw [upd_ne (ne_of_none e hD)]
        exact s4 _ _ (kp _ _ e)
    · rintro H2 ⟨ac, hD2, hac, kp⟩
      rw [hxl, List.take_length] at hac
      have s2 : Same H H2 := s1.trans fun b o e => kp b o e
      refine ⟨D, 1, n.toNat, rows.map flipR, ac, by omega, by omega, by omega, rfl, good_flip hg, SqL.of hD2, DqAll.same hide_sub _ _ hac, fun R2 H3 kvb s3 n3 l3 hkb => ?_⟩
      have s03 := s2.trans s3
      have la3 : H3 R = some (.dK kva) := s3 _ _ (kp _ _ l1)
      refine ⟨n, rfl, by omega, by omega, fun D2 hDn2 => ?_⟩
      refine lc_range (lo := 0) (n := n.toNat) (fun t H' => ∃ ac, H' D2 = some (.lst ac) ∧ RowsAt (hide [D2] H') ac ((((List.range t).map fun i : Nat => (i : Int)).filter (badP rows)).map dPlace) ∧ ∀ b o, H3 b = some o → H' b = some o)
        ⟨[], upd_same, .nil, fun b o e => by rw [upd_ne (ne_of_none e hDn2)]; exact e⟩ ?_ ?_
      · rintro t H4 ht ⟨ac2, hD4, hac2, kp2⟩
        have la4 := kp2 _ _ la3
        have lb4 := kp2 _ _ l3
        have ez : (0 : Int) + (t : Int) = (t : Int) := by omega
        rw [ez]
        have hlt : (List.range t)[t]? = none := by simp
        have hrt : List.range (t + 1) = List.range t ++ [t] := List.range_succ
        have ea := reachB_of hka (t : Int)
        have eb := reachB_of hkb (t : Int)
        have yes : badP rows (t : Int) = true → tTupS (tCons (tC (.str "place")) (tCons (aVar 9) tNil)) [some (.ref na), some (.int n), some (.ref S), some (.ref R), some (.ref R2), none, none, none, none, some (.int (t : Int))] H4 (fun y H5 => ∃ acc, H5 D2 = some (.lst acc) ∧ acc.length < sizeLine ∧ ∃ ac, upd H5 D2 (.lst (acc ++ [y])) D2 = some (.lst ac) ∧ RowsAt (hide [D2] (upd H5 D2 (.lst (acc ++ [y])))) ac ((((List.range (t + 1)).map fun i : Nat => (i : Int)).filter (badP rows)).map dPlace) ∧ ∀ b o, H3 b = some o → upd H5 D2 (.lst (acc ++ [y])) b = some o) := fun c => by
          refine ⟨by simp, fun q H5 s5 n5 l5 => ?_⟩
          have hqD : q ≠ D2 := fun z => by rw [z, hD4] at n5; cases n5
          have hal := rows_len hac2
          rw [List.length_map] at hal
          have hfl := List.length_filter_le (badP rows) ((List.range t).map fun i : Nat => (i : Int))
          rw [List.length_map, List.length_range] at hfl
          refine ⟨ac2, s5 _ _ hD4, by rw [sizeLine_eq]; omega, ac2 ++ [.ref q], upd_same, ?_, fun b o e => ?_⟩
          · rw [hide_upd, hrt, List.map_append, List.filter_append, List.map_append]
            have e1 : ([t].map fun i : Nat => (i : Int)).filter (badP rows) = [(t : Int)] := by rw [List.map_cons, List.map_nil, List.filter_cons, if_pos c]; rfl
            rw [e1]
            exact rows_snoc (hac2.same (hide_same s5)) ⟨q, rfl, hid_of hqD l5⟩
          · rw [upd_ne (ne_of_none e hDn2)]
            exact s5 _ _ (kp2 _ _ e)
        have no : badP rows (t : Int) = false → ∃ ac, H4 D2 = some (.lst ac) ∧ RowsAt (hide [D2] H4) ac ((((List.range (t + 1)).map fun i : Nat => (i : Int)).filter (badP rows)).map dPlace) ∧ ∀ b o, H3 b = some o → H4 b = some o := fun c => by
          refine ⟨ac2, hD4, ?_, kp2⟩
          rw [hrt, List.map_append, List.filter_append, List.map_append]
          have e1 : ([t].map fun i : Nat => (i : Int)).filter (badP rows) = [] := by rw [List.map_cons, List.map_nil, List.filter_cons, if_neg (by rw [c]; decide)]; rfl
          rw [e1, List.map_nil, List.append_nil]
          exact hac2
        refine ⟨rfl, R, kva, .inl (t : Int), rfl, rfl, la4, ?_⟩
        refine ite2 (fun c => ?_) (fun c => ?_)
        · have c' : (!inD kva (t : Int)) = true := c
          exact yes (by unfold badP; rw [← ea, c']; rfl)
        · have c' : inD kva (t : Int) = true := bfalse c
          refine ⟨R2, kvb, .inl (t : Int), rfl, rfl, lb4, ?_⟩
          refine ite2 (fun c2 => ?_) (fun c2 => ?_)
          · have c2' : (!inD kvb (t : Int)) = true := c2
            exact yes (by unfold badP; rw [← eb, c2', Bool.or_true])
          · have c2' : inD kvb (t : Int) = true := bfalse c2
            exact no (by unfold badP; rw [← ea, ← eb, c', c2']; rfl)
      · rintro H4 ⟨ac2, hD4, hac2, kp2⟩
        have s4 : Same H H4 := s03.trans fun b o e => kp2 b o e
        have hD0 : H D2 = none := s03.free hDn2
        have la4 := kp2 _ _ la3
        have lb4 := kp2 _ _ l3
        have sL : ∀ {H' : Hp} {ys : List V}, Same H H' → Same H (upd H' D2 (.lst ys)) := fun {H' ys} s b o e => by rw [upd_ne (ne_of_none e hD0)]; exact s b o e
        have hRD : R ≠ D2 := fun z => by rw [z, hDn2] at la3; cases la3
        have hR2D : R2 ≠ D2 := fun z => by rw [z, hDn2] at l3; cases l3
        refine ⟨S, rfl, ⟨_, s4.sqT hS⟩, ?_⟩
        refine for_it (walk_tup (xs := xs)) (fun i σ H' => ∃ (ac : List V) (o6 o7 o8 o9 : Option V), σ = [some (.ref na), some (.int n), some (.ref S), some (.ref R), some (.ref R2), some (.ref D2), o6, o7, o8, o9] ∧ H' D2 = some (.lst ac) ∧ RowsAt (hide [D2] H') ac (placesL n rows ++ ((rows.take i).filter (badR rows)).map fun r => dStep r.1) ∧ ac.length ≤ ac2.length + i ∧ Same H H' ∧ H' R = some (.dK kva) ∧ H' R2 = some (.dK kvb))
          ⟨ac2, _, _, _, _, rfl, hD4, by rw [List.take_zero, List.filter_nil, List.map_nil, List.append_nil]; exact hac2, by omega, s4, la4, lb4⟩ (fun i σ H' _ ⟨_, _, _, _, _, _, _, _, _, s, _, _⟩ => s.sqT hS) ?_ ?_
        · rintro i x σ H5 H6 hi ⟨ac3, o6, o7, o8, o9, rfl, hD5, hac3, hal3, s5, la5, lb5⟩ ⟨rfl, hxx⟩
          obtain ⟨d, hd, hdq⟩ := hx.get hxx
          obtain ⟨r, hr1, rfl⟩ := row_of_map hd
          obtain ⟨tt, p1, q1, rfl, htt, hp1, hq1⟩ := row_at hdq
          have G := hg.row r (List.mem_of_getElem? hr1)
          have fi := G.i.few h30
          have fo := G.o.few h30
          refine ⟨tt, _, rfl, s5.sqT htt, rfl, _, _, rfl, _, _, rfl, _, _, rfl, rfl, ?_⟩
          refine ⟨p1, R, r.2.1, reachB rows 0, rfl, s5.sqT hp1, by omega, .inr ⟨kva, la5, fun k => (reachB_of hka k).symm⟩, fun H7 s7 => ?_⟩
          have hl2 := rows_len hac2
          rw [List.length_map] at hl2
          have hl3 := List.length_filter_le (badP rows) ((List.range n.toNat).map fun i : Nat => (i : Int))
          rw [List.length_map, List.length_range] at hl3
          have fin : badR rows r = true → ∀ (H8 H9 : Hp) (q : Addr), Same H7 H8 → Same H8 H9 → H8 q = none → H9 q = some (.tup [.str "step", .str r.1]) → ∃ (acc' : List V), H9 D2 = some (.lst acc') ∧ acc'.length ≤ 1000000 ∧
              ∃ (ac : List V) (o6 o7 o8 o9' : Option V), [some (.ref na), some (.int n), some (.ref S), some (.ref R), some (.ref R2), some (.ref D2), some (.str r.1), some (.ref p1), some (.ref q1), o9] = [some (.ref na), some (.int n), some (.ref S), some (.ref R), some (.ref R2), some (.ref D2), o6, o7, o8, o9'] ∧ upd H9 D2 (.lst (acc' ++ [.ref q])) D2 = some (.lst ac) ∧ RowsAt (hide [D2] (upd H9 D2 (.lst (acc' ++ [.ref q])))) ac (placesL n rows ++ ((rows.take (i + 1)).filter (badR rows)).map fun r => dStep r.1) ∧ ac.length ≤ ac2.length + (i + 1) ∧ Same H (upd H9 D2 (.lst (acc' ++ [.ref q]))) ∧ upd H9 D2 (.lst (acc' ++ [.ref q])) R = some (.dK kva) ∧ upd H9 D2 (.lst (acc' ++ [.ref q])) R2 = some (.dK kvb) := fun c H8 H9 q s8 s9 n9 l9 => by
            have s79 := s8.trans s9
            have hD8 := s8 _ _ (s7 _ _ hD5)
            have hqD : q ≠ D2 := fun z => by rw [z, hD8] at n9; cases n9
            refine ⟨ac3, s9 _ _ hD8, by omega, ac3 ++ [.ref q], _, _, _, _, rfl, upd_same, ?_, by simp; omega, sL (s5.trans (s7.trans s79)), ?_, ?_⟩
            · rw [hide_upd, take_filter hr1, if_pos c, List.map_append, ← List.append_assoc]
              exact rows_snoc (hac3.same (hide_same (s7.trans s79))) ⟨q, rfl, hid_of hqD l9⟩
            · rw [upd_ne hRD]
              exact s79 _ _ (s7 _ _ la5)
            · rw [upd_ne hR2D]
              exact s79 _ _ (s7 _ _ lb5)
          refine ite2 (fun c => ?_) (fun c => ?_)
          · have c' : badR rows r = true := by
              have c2 : (!(r.2.1.any (reachB rows 0))) = true := c
              unfold badR
              rw [c2]
              rfl
            exact ⟨D2, ac3, rfl, s7 _ _ hD5, by simp, fun q H9 s9 n9 l9 => fin c' H7 H9 q (Same.refl _) s9 n9 l9⟩
          · refine ⟨q1, R2, r.2.2, reachB (rows.map flipR) 1, rfl, (s5.trans s7).sqT hq1, by omega, .inr ⟨kvb, s7 _ _ lb5, fun k => (reachB_of hkb k).symm⟩, fun H8 s8 => ?_⟩
            have c1 : r.2.1.any (reachB rows 0) = true := bfalse c
            refine ite2 (fun c2 => ?_) (fun c2 => ?_)
            · have c' : badR rows r = true := by
                have c3 : (!(r.2.2.any (reachB (rows.map flipR) 1))) = true := c2
                unfold badR
                rw [c3, Bool.or_true]
              exact ⟨D2, ac3, rfl, s8 _ _ (s7 _ _ hD5), by simp, fun q H9 s9 n9 l9 => fin c' H8 H9 q s8 s9 n9 l9⟩
            · have c3 : r.2.2.any (reachB (rows.map flipR) 1) = true := bfalse c2
              have c' : badR rows r = false := by
                unfold badR
                rw [c1, c3]
                rfl
              have s78 := s7.trans s8
              exact ⟨ac3, _, _, _, _, rfl, s78 _ _ hD5, by rw [take_filter hr1, if_neg (by rw [c']; decide), List.append_nil]; exact hac3.same (hide_same s78), by omega, s5.trans s78, s78 _ _ la5, s78 _ _ lb5⟩
        · rintro σ H5 ⟨ac3, o6, o7, o8, o9, rfl, hD5, hac3, hal3, s5, la5, lb5⟩
          rw [hxl, List.take_length] at hac3
          exact k D2 ac3 H5 s5 hD0 hD5 (hac3.same hide_sub)
end
end K02

set_option Elab.async false
set_option linter.all false
set_option maxRecDepth 100000
set_option maxHeartbeats 4000000
namespace K02
open PySem L2 PySem.KX StX
/-- not x, by the truth of x -/
theorem pe_notTr {X : Cx} {a : Expr} {ta : TE} {pos : Pos} (ha : PE X a ta) : PE X (.UnaryOp .Not a pos) (fun σ H Q => ta σ H fun x H1 => ∃ k, TruV X.K x H1 k ∧ Q (.bl (!k)) H1) := by
  constructor
  intro pins s σ H Q I h
  refine PyProof.Rows.UnaryOp_ (L2.thn (ha.run pins s σ H _ I h) fun v s1 hv => ?_)
  obtain ⟨x, H1, I1, r1, k, e, q⟩ := hv
  refine PyProof.Rows.not_of (L2.thn (tru_ok pins s1 σ H1 x v (fun c H2 => Q (.bl (!c)) H2) I1 r1 ⟨k, e, q⟩) fun c s2 hc => ?_)
  obtain ⟨H2, I2, q2⟩ := hc
  exact ⟨.bl (!c), H2, I2, rfl, q2⟩
noncomputable def allL (n : Int) (rows : List RowN) : List RowK := startsL rows ++ endsL rows ++ choicesL rows ++ (placesL n rows ++ stepsL rows)
/-- the kinds of defects -/
def IsDf (r : RowK) : Prop := (∃ x, r = dStart x) ∨ (∃ x, r = dEnd x) ∨ (∃ x y, r = dChoice x y) ∨ (∃ k, r = dPlace k) ∨ ∃ x, r = dStep x
theorem df_cmp {r q : RowK} (h : IsDf r) (k : IsDf q) : RowCmp r q := by
  rcases h with ⟨x, rfl⟩ | ⟨x, rfl⟩ | ⟨x, x', rfl⟩ | ⟨x, rfl⟩ | ⟨x, rfl⟩ <;> rcases k with ⟨y, rfl⟩ | ⟨y, rfl⟩ | ⟨y, y', rfl⟩ | ⟨y, rfl⟩ | ⟨y, rfl⟩ <;>
    first
    | exact ⟨_, _, _, _, rfl, rfl, fun e => absurd e (by decide +kernel)⟩
    | exact ⟨_, _, _, _, rfl, rfl, fun _ => by simp [PySem.W.alikeAll, PySem.W.alike, kD]⟩
theorem starts_df {rows : List RowN} : ∀ r ∈ startsL rows, IsDf r := fun r hr => by
  obtain ⟨q, _, rfl⟩ := List.mem_map.mp hr
  exact .inl ⟨_, rfl⟩
theorem ends_df {rows : List RowN} : ∀ r ∈ endsL rows, IsDf r := fun r hr => by
  obtain ⟨q, _, rfl⟩ := List.mem_map.mp hr
  exact .inr (.inl ⟨_, rfl⟩)
theorem choices_df {rows : List RowN} : ∀ r ∈ choicesL rows, IsDf r := fun r hr => by
  obtain ⟨i, _, hi⟩ := List.mem_flatMap.mp hr
  unfold choicesAt at hi
  split at hi
  · obtain ⟨q, _, rfl⟩ := List.mem_map.mp hi
    exact .inr (.inr (.inl ⟨_, _, rfl⟩))
  · exact absurd hi List.not_mem_nil
theorem places_df {n : Int} {rows : List RowN} : ∀ r ∈ placesL n rows, IsDf r := fun r hr => by
  obtain ⟨q, _, rfl⟩ := List.mem_map.mp hr
  exact .inr (.inr (.inr (.inl ⟨_, rfl⟩)))
theorem steps_df {rows : List RowN} : ∀ r ∈ stepsL rows, IsDf r := fun r hr => by
  obtain ⟨q, _, rfl⟩ := List.mem_map.mp hr
  exact .inr (.inr (.inr (.inr ⟨_, rfl⟩)))
theorem all_df {n : Int} {rows : List RowN} : ∀ r ∈ allL n rows, IsDf r := fun r hr => by
  unfold allL at hr
  simp only [List.mem_append] at hr
  rcases hr with ((h | h) | h) | h | h
  · exact starts_df r h
  · exact ends_df r h
  · exact choices_df r h
  · exact places_df r h
  · exact steps_df r h
theorem choices_len (rows : List RowN) : ∀ i, ((List.range i).flatMap (choicesAt rows)).length ≤ rows.length * i
  | 0 => by simp
  | i + 1 => by
    have h := choices_len rows i
    have h2 : (choicesAt rows i).length ≤ rows.length := by
      unfold choicesAt
      split
      · rw [List.length_map]
        have := List.length_filter_le (chB (by assumption)) (rows.drop (i + 1))
        rw [List.length_drop] at this
        refine Nat.le_trans this ?_
        omega
      · simp
    rw [List.range_succ, List.flatMap_append, List.length_append]
    have e : ([i].flatMap (choicesAt rows)).length = (choicesAt rows i).length := by simp
    rw [e, Nat.mul_succ]
    omega
theorem all_lens {n : Int} {rows : List RowN} (hg : GoodN n rows) : (startsL rows ++ endsL rows).length ≤ 80 ∧ (choicesL rows).length ≤ 1600 ∧ (placesL n rows ++ stepsL rows).length ≤ 70 := by
  have hf := hg.few
  have h2 := hg.lo
  have h30 := hg.hi
  have f1 := List.length_filter_le (fun r : RowN => decide ((0 : Int) ∈ r.2.2)) rows
  have f2 := List.length_filter_le (fun r : RowN => decide ((1 : Int) ∈ r.2.1)) rows
  have f3 := List.length_filter_le (badP rows) ((List.range n.toNat).map fun i : Nat => (i : Int))
  have f4 := List.length_filter_le (badR rows) rows
  have f5 := choices_len rows rows.length
  rw [List.length_map, List.length_range] at f3
  refine ⟨?_, ?_, ?_⟩
  · unfold startsL endsL
    rw [List.length_append, List.length_map, List.length_map]
    omega
  · unfold choicesL
    exact Nat.le_trans f5 (Nat.le_trans (Nat.mul_le_mul hf hf) (by decide))
  · unfold placesL stepsL
    rw [List.length_append, List.length_map, List.length_map]
    omega
abbrev sis_workflow : Stmt := top 13
theorem scis_workflow : FnScope ["value"] ["value"] (defScope sis_workflow) := ⟨rfl, rfl, rfl, by decide +kernel, rfl, by decide +kernel, by decide +kernel⟩
abbrev snet_defects : Stmt := top 14
theorem scnet_defects : FnScope ["net"] ["net"] (defScope snet_defects) := ⟨rfl, rfl, rfl, by decide +kernel, rfl, by decide +kernel, by decide +kernel⟩
abbrev s_all_defects : Stmt := top 18
theorem sc_all_defects : FnScope ["net"] ["net"] (defScope s_all_defects) := ⟨rfl, rfl, rfl, by decide +kernel, rfl, by decide +kernel, by decide +kernel⟩
section
variable {P : Program} {w : World} {K : PySem.W.Frag} {mg : Str → Option Value} {base : Heap}
theorem ok_all_defects {f : Addr} {fd : FuncData} (F : Fun K "_all_defects" "_all_defects" s_all_defects f fd) (O_end : Own P w K mg base CX0 "_end_defects" 1 ["net"] (spRows K fun _ rows => startsL rows ++ endsL rows)) (O_cho : Own P w K mg base CX0 "_choice_defects" 2 ["net"] (spRows K fun _ rows => choicesL rows))
    (O_path : Own P w K mg base CX0 "_path_defects" 2 ["net"] (spRows K fun n rows => placesL n rows ++ stepsL rows)) : FnG P w K mg base CX0 3 f fd ["net"] (spRows K allL) := by
  have nd := sc_all_defects.nd
  refine okG F sc_all_defects (fun vs H Q E h => ?_) (fun cdv A outer s H vs Q E hr h => ?_)
  · obtain ⟨_, _, _, rfl, _⟩ := h
    rfl
  · obtain ⟨v, n, rows, rfl, hv, hg, k⟩ := h
    refine ⟨_, (pss_one (ps_ret (pe_op op_addS (pe_op op_addS (pe_own O_end hr (pa_cons (av 0) pa_nil) (by decide)) (pe_own O_cho hr (pa_cons (av 0) pa_nil) (by decide))) (pe_own O_path hr (pa_cons (av 0) pa_nil) (by decide))))), ?_⟩
    obtain ⟨b1, b2, b3⟩ := all_lens hg
    refine ⟨v, n, rows, rfl, hv, hg, fun a1 x1 H1 s1 n1 l1 r1 => ?_⟩
    refine ⟨v, n, rows, rfl, Dq.same s1 _ _ hv, hg, fun a2 x2 H2 s2 n2 l2 r2 => ?_⟩
    have e1 : x1.length = (startsL rows ++ endsL rows).length := rows_len r1
    have e2 : x2.length = (choicesL rows).length := rows_len r2
    refine .inl ⟨x1, x2, s2 _ _ l1, l2, by omega, fun a3 H3 s3 n3 l3 => ?_⟩
    have s13 := (s1.trans s2).trans s3
    refine ⟨v, n, rows, rfl, Dq.same s13 _ _ hv, hg, fun a4 x4 H4 s4 n4 l4 r4 => ?_⟩
    have e4 : x4.length = (placesL n rows ++ stepsL rows).length := rows_len r4
    refine .inl ⟨x1 ++ x2, x4, s4 _ _ l3, l4, by rw [List.length_append]; omega, fun a5 H5 s5 n5 l5 => ?_⟩
    have s15 := (s13.trans s4).trans s5
    refine k a5 _ H5 s15 ((s13.trans s4).free n5) l5 ?_
    exact rows_app (rows_app (r1.same (((s2.trans s3).trans s4).trans s5)) (r2.same ((s3.trans s4).trans s5))) (r4.same s5)
def spWf (K : PySem.W.Frag) : Sp := fun vs H Q _ => ∃ (v : V) (d : PyData), vs = [v] ∧ Wd K H v d ∧ ((∃ n rows, d = netOf n rows ∧ GoodN n rows ∧ ∀ H', Same H H' → Q (.bl (allL n rows).isEmpty) H') ∨ (netD d = false ∧ ∀ H', Same H H' → Q (.bl false) H'))
theorem ok_is_workflow {f : Addr} {fd : FuncData} (F : Fun K "is_workflow" "is_workflow" sis_workflow f fd) (Ois_net : Own P w K mg base CX0 "is_net" 5 ["value"] (spN K netD)) (O_all : Own P w K mg base CX0 "_all_defects" 3 ["net"] (spRows K allL)) : FnG P w K mg base CX0 6 f fd ["value"] (spWf K) := by
  have nd := scis_workflow.nd
  refine okG F scis_workflow (fun vs H Q E h => ?_) (fun cdv A outer s H vs Q E hr h => ?_)
  · obtain ⟨_, _, rfl, _⟩ := h
    rfl
  · obtain ⟨v, d, rfl, hd, k⟩ := h
    refine ⟨_, (pss_one (ps_ret (pe_and (pe_own Ois_net hr (pa_cons (av 0) pa_nil) (by decide)) (pe_one (pe_notTr (pe_own O_all hr (pa_cons (av 0) pa_nil) (by decide))))))), ?_⟩
    refine ⟨v, d, rfl, hd, fun H1 s1 => ⟨_, rfl, ?_⟩⟩
    rcases k with ⟨n, rows, rfl, hg, k⟩ | ⟨hn, k⟩
    · rw [net_good hg]
      refine iteT ⟨v, n, rows, rfl, Dq.same s1 _ _ hd.dq, hg, fun a xs H2 s2 n2 l2 r2 => ?_⟩
      refine ⟨!xs.isEmpty, .inl ⟨xs, SqL.of l2, rfl⟩, ?_⟩
      have e := rows_len r2
      have e2 : (!!xs.isEmpty) = (allL n rows).isEmpty := by
        rw [Bool.not_not]
        cases xs with
        | nil =>
          cases c : allL n rows with
          | nil => rfl
          | cons _ _ => rw [c] at e; simp at e
        | cons _ _ =>
          cases c : allL n rows with
          | nil => rw [c] at e; simp at e
          | cons _ _ => rfl
      have := k H2 (s1.trans s2)
      rw [← e2] at this
      exact this
    · rw [hn]
      exact iteF (k _ s1)
noncomputable def defsL (n : Int) (rows : List RowN) : List RowK := sortRows (allL n rows)
def spDefs (K : PySem.W.Frag) (cI : Addr) : Sp := fun vs H Q E => ∃ (v : V) (d : PyData), vs = [v] ∧ Wd K H v d ∧
  ((∃ n rows, d = netOf n rows ∧ GoodN n rows ∧ ∀ a xs H', Same H H' → H a = none → H' a = some (.tup xs) → RowsAt H' xs (defsL n rows) → Q (.ref a) H') ∨ (netD d = false ∧ ∀ H', Same H H' → E (.ref cI) none H'))
theorem ok_net_defects {f cI : Addr} {fd : FuncData} (F : Fun K "net_defects" "net_defects" snet_defects f fd) (htup : mg "tuple" = none) (hsorted : mg "sorted" = none) (Ocheck_net : Own P w K mg base (L2.CX P w) "check_net" 6 ["net"] (spChk K cI netD)) (O_all : Own P w K mg base CX0 "_all_defects" 3 ["net"] (spRows K allL)) :
    FnG P w K mg base (L2.CX P w) 7 f fd ["net"] (spDefs K cI) := by
  have nd := scnet_defects.nd
  refine okGX F scnet_defects (fun vs H Q E h => ?_) (fun cdv A outer s H vs Q E hr h => ?_)
  · obtain ⟨_, _, rfl, _⟩ := h
    rfl
  · obtain ⟨v, d, rfl, hd, k⟩ := h
    refine ⟨_, (pss_cons (ps_expr (pe_ownX Ocheck_net hr passE (pa_cons (av 0) pa_nil) (by decide)))
      (pss_one (ps_ret (pe_callTy call_tupLS (by rfl) htup (by decide +kernel) (pa_cons (pe_callB (call_sortRow hr.units64) (by rfl) hsorted (by decide +kernel) (pa_cons (pe_own O_all hr (pa_cons (av 0) pa_nil) (by decide)) pa_nil)) pa_nil))))), ?_⟩
    refine ⟨v, d, rfl, hd, fun hg2 H1 s1 => ?_, fun hb H1 s1 => ?_⟩
    · rcases k with ⟨n, rows, rfl, hg, k⟩ | ⟨hn, k⟩
      · refine ⟨v, n, rows, rfl, Dq.same s1 _ _ hd.dq, hg, fun a xs H2 s2 n2 l2 r2 => ?_⟩
        refine ⟨a, xs, _, rfl, SqL.of l2, r2, fun r hr q hq => df_cmp (all_df r hr) (all_df q hq), fun ys p H3 s3 n3 l3 r3 => ?_⟩
        refine ⟨p, _, rfl, SqL.of l3, fun q H4 s4 n4 l4 => ?_⟩
        exact k q ys H4 (((s1.trans s2).trans s3).trans s4) (((s1.trans s2).trans s3).free n4) l4 (r3.same s4)
      · rw [hn] at hg2
        cases hg2
    · rcases k with ⟨n, rows, rfl, hg, k⟩ | ⟨hn, k⟩
      · rw [net_good hg] at hb
        cases hb
      · exact k _ s1
end
end K02

set_option Elab.async false
set_option linter.all false
set_option maxRecDepth 100000
set_option maxHeartbeats 4000000
namespace K02
open PySem L2 PySem.KX StX
instance memK (k : Key) (l : List Key) : Decidable (k ∈ l) := decidable_of_iff (l.any (fun a => decide (a = k)) = true) (by simp [List.any_eq_true])
abbrev EdgeK := Key × Key
def edgeR (e : EdgeK) : RowK := [e.1, e.2]
/-- what can be reached over edges -/
inductive BReach (es : List EdgeK) (b : Key) : Key → Prop
  | base : BReach es b b
  | step {k j : Key} : BReach es b k → (k, j) ∈ es → BReach es b j
theorem BReach.least {es : List EdgeK} {b : Key} {S : Key → Prop} (hb : S b) (hc : ∀ e ∈ es, S e.1 → S e.2) : ∀ {k : Key}, BReach es b k → S k
  | _, .base => hb
  | _, .step h he => hc _ he (BReach.least hb hc h)
/-- the state of the search -/
structure Fwd (es : List EdgeK) (b : Key) (fs ws : List Key) (now : Option (Key × Nat)) : Prop where
  beg : b ∈ fs
  sound : ∀ k ∈ fs, BReach es b k
  wait : ∀ k ∈ ws, k ∈ fs
  nd : fs.Nodup
  sub : ∀ k ∈ fs, k ∈ b :: es.map (·.2)
  done : ∀ k ∈ fs, k ∉ ws → (∀ p i, now = some (p, i) → k ≠ p) → ∀ j, (k, j) ∈ es → j ∈ fs
  part : ∀ p i, now = some (p, i) → p ∈ fs ∧ ∀ t, t < i → ∀ j, es[t]? = some (p, j) → j ∈ fs
def muF (es : List EdgeK) (b : Key) (fs ws : List Key) : Nat := 2 * ((b :: es.map (·.2)).filter fun k => !decide (k ∈ fs)).length + ws.length
theorem Fwd.start {es : List EdgeK} {b : Key} : Fwd es b [b] [b] none :=
  ⟨List.mem_singleton.mpr rfl, fun k hk => by rw [List.mem_singleton.mp hk]; exact .base, fun k hk => hk, by simp, fun k hk => by rw [List.mem_singleton.mp hk]; exact List.mem_cons_self,
    fun k hk hn => absurd hk hn, fun p i h => nomatch h⟩
theorem Fwd.take {es : List EdgeK} {b p : Key} {fs ws : List Key} (h : Fwd es b fs (ws ++ [p]) none) : Fwd es b fs ws (some (p, 0)) := by
  refine ⟨h.beg, h.sound, fun k hk => h.wait k (List.mem_append_left _ hk), h.nd, h.sub, fun k hk hn hp => h.done k hk (fun z => ?_) (fun _ _ z => nomatch z), fun q i e => ?_⟩
  · rcases List.mem_append.mp z with z | z
    · exact hn z
    · exact hp p 0 rfl (List.mem_singleton.mp z)
  · cases e
    exact ⟨h.wait _ (List.mem_append_right _ (List.mem_singleton.mpr rfl)), fun t ht => absurd ht (Nat.not_lt_zero _)⟩
/-- an edge that tells nothing new -/
theorem Fwd.skip {es : List EdgeK} {b p : Key} {fs ws : List Key} {i : Nat} {e : EdgeK} (h : Fwd es b fs ws (some (p, i))) (he : es[i]? = some e) (hp : e.1 = p → e.2 ∈ fs) : Fwd es b fs ws (some (p, i + 1)) := by
  refine ⟨h.beg, h.sound, h.wait, h.nd, h.sub, fun k hk hn hq => h.done k hk hn fun q j e => ?_, fun q j e2 => ?_⟩
  · cases e
    exact hq p (i + 1) rfl
  · cases e2
    obtain ⟨h1, h2⟩ := h.part p i rfl
    refine ⟨h1, fun t ht j hj => ?_⟩
    by_cases c : t = i
    · subst c
      rw [he] at hj
      cases hj
      exact hp rfl
    · exact h2 t (by omega) j hj
/-- an edge to something new -/
theorem Fwd.more {es : List EdgeK} {b p : Key} {fs ws : List Key} {i : Nat} {j : Key} (h : Fwd es b fs ws (some (p, i))) (he : es[i]? = some (p, j)) (hn : j ∉ fs) : Fwd es b (fs ++ [j]) (ws ++ [j]) (some (p, i + 1)) := by
  obtain ⟨h1, h2⟩ := h.part p i rfl
  have hm := List.mem_of_getElem? he
  refine ⟨List.mem_append_left _ h.beg, fun k hk => ?_, fun k hk => ?_, ?_, fun k hk => ?_, fun k hk hw hq c hc => ?_, fun q t e => ?_⟩
  · rcases List.mem_append.mp hk with z | z
    · exact h.sound k z
    · rw [List.mem_singleton.mp z]
      exact .step (h.sound p h1) hm
  · rcases List.mem_append.mp hk with z | z
    · exact List.mem_append_left _ (h.wait k z)
    · exact List.mem_append_right _ z
  · refine List.nodup_append.mpr ⟨h.nd, by simp, fun x hx y hy => ?_⟩
    rw [List.mem_singleton.mp hy]
    intro z
    exact hn (z ▸ hx)
  · rcases List.mem_append.mp hk with z | z
    · exact h.sub k z
    · rw [List.mem_singleton.mp z]
      exact List.mem_cons_of_mem _ (List.mem_map.mpr ⟨_, hm, rfl⟩)
  · rcases List.mem_append.mp hk with z | z
    · exact List.mem_append_left _ (h.done k z (fun q => hw (List.mem_append_left _ q)) (fun q t e => by cases e; exact hq p (i + 1) rfl) c hc)
    · exact absurd (List.mem_append_right _ z) hw
  · cases e
    refine ⟨List.mem_append_left _ h1, fun t ht c hc => ?_⟩
    by_cases e : t = i
    · subst e
      rw [he] at hc
      cases hc
      exact List.mem_append_right _ (List.mem_singleton.mpr rfl)
    · exact List.mem_append_left _ (h2 t (by omega) c hc)
theorem Fwd.next {es : List EdgeK} {b p : Key} {fs ws : List Key} (h : Fwd es b fs ws (some (p, es.length))) : Fwd es b fs ws none := by
  obtain ⟨h1, h2⟩ := h.part p _ rfl
  refine ⟨h.beg, h.sound, h.wait, h.nd, h.sub, fun k hk hn _ j hj => ?_, fun q i e => nomatch e⟩
  by_cases e : k = p
  · subst e
    obtain ⟨t, ht⟩ := List.getElem?_of_mem hj
    exact h2 t (List.getElem?_eq_some_iff.mp ht).1 j ht
  · exact h.done k hk hn (fun q i e2 => by cases e2; exact e) j hj
theorem Fwd.end {es : List EdgeK} {b : Key} {fs : List Key} (h : Fwd es b fs [] none) (k : Key) : k ∈ fs ↔ BReach es b k :=
  ⟨h.sound k, BReach.least (S := fun k => k ∈ fs) h.beg fun e he hS => h.done e.1 hS List.not_mem_nil (fun _ _ z => nomatch z) e.2 he⟩
theorem muF_more {es : List EdgeK} {b j : Key} {fs ws : List Key} (hj : j ∈ b :: es.map (·.2)) (hn : j ∉ fs) : muF es b (fs ++ [j]) (ws ++ [j]) ≤ muF es b fs ws := by
  have f := filter_lt (l := b :: es.map (·.2)) (p := fun k => !decide (k ∈ fs)) (q := fun k => !decide (k ∈ fs ++ [j])) fun x _ hx => by
    cases c : decide (x ∈ fs) with
    | false => rfl
    | true =>
      have : decide (x ∈ fs ++ [j]) = true := decide_eq_true (List.mem_append_left _ (of_decide_eq_true c))
      rw [this] at hx
      cases hx
  have := f.2 j hj (by rw [decide_eq_false hn]; rfl) (by rw [decide_eq_true (List.mem_append_right _ (List.mem_singleton.mpr rfl))]; rfl)
  unfold muF
  rw [List.length_append, List.length_singleton]
  omega
theorem Fwd.len {es : List EdgeK} {b : Key} {fs ws : List Key} {now : Option (Key × Nat)} (h : Fwd es b fs ws now) : fs.length ≤ es.length + 1 := by
  have := nodup_le h.nd h.sub
  simpa using this
def okK : Key → Bool
  | .inl _ => true
  | .inr x => PyData.strOk x
theorem keys_lay : ∀ ks : List Key, (∀ k ∈ ks, okK k = true) → PyData.canLayAll0 (ks.map kD) = true
  | [], _ => by simp [PyData.canLayAll0]
  | .inl i :: r, h => by
    simp only [List.map_cons, PyData.canLayAll0, kD, PyData.canLay0, keys_lay r fun y hy => h y (List.mem_cons_of_mem _ hy), Bool.and_true]
  | .inr x :: r, h => by
    have h1 : PyData.strOk x = true := h (.inr x) List.mem_cons_self
    simp only [List.map_cons, PyData.canLayAll0, kD, PyData.canLay0, keys_lay r fun y hy => h y (List.mem_cons_of_mem _ hy), Bool.and_true]
    exact h1
theorem keys_shaped {ks : List Key} (h : ∀ k ∈ ks, okK k = true) : SeqAt.shaped (.list (ks.map kD)) = true := by
  unfold SeqAt.shaped
  simp only [PyData.canLay0, keys_lay ks h, PyData.depth, depth_keys, Bool.and_eq_true, decide_eq_true_eq]
  exact ⟨trivial, by omega⟩
theorem keys_dp {K : PySem.W.Frag} {H : Hp} : ∀ ks : List Key, DpAll K H (ks.map kV) (ks.map kD)
  | [] => .nil
  | .inl i :: r => .cons (.int i) (keys_dp r)
  | .inr x :: r => .cons (.str x) (keys_dp r)
theorem inV_key {k : Key} {ks : List Key} : inV (kV k) (ks.map kV) = decide (k ∈ ks) := by
  unfold inV
  rw [List.any_map]
  have e : ∀ a : Key, (eqV (kV a) (kV k) = true) ↔ a = k := fun a => by
    cases a with
    | inl i =>
      cases k with
      | inl j => simp [kV, eqV]
      | inr y => simp [kV, eqV]
    | inr x =>
      cases k with
      | inl j => simp [kV, eqV]
      | inr y => simp [kV, eqV]
  by_cases h : k ∈ ks
  · rw [decide_eq_true h]
    exact List.any_eq_true.mpr ⟨k, h, (e k).mpr rfl⟩
  · rw [decide_eq_false h]
    refine List.any_eq_false.mpr fun a ha z => h ?_
    rw [← (e a).mp z]
    exact ha
theorem flat_keys (ks : List Key) : (ks.map kV).all flatV = true := by
  rw [List.all_map]
  exact List.all_eq_true.mpr fun k _ => by cases k <;> rfl
theorem flat_key (k : Key) : flatV (kV k) = true := by cases k <;> rfl
theorem shaped_key {k : Key} (h : okK k = true) : SeqAt.shaped (kD k) = true := by
  unfold SeqAt.shaped
  cases k with
  | inl i => simp [kD, PyData.canLay0, PyData.depth]
  | inr x =>
    have h' : PyData.strOk x = true := h
    simp [kD, PyData.canLay0, PyData.depth, h']
theorem eq_key {K : PySem.W.Frag} {a b : Key} {H : Hp} {Q : VK} (ha : okK a = true) (hb : okK b = true) (h : Q (.bl (decide (a = b))) H) : rEqA K (kV a) (kV b) H Q := by
  cases a with
  | inl i =>
    cases b with
    | inl j =>
      show Q (.bl (decide (i = j))) H
      have e : decide ((Sum.inl i : Key) = Sum.inl j) = decide (i = j) := by simp
      rw [← e]
      exact h
    | inr y => exact ⟨.int i, .str y, .int i, .str y, shaped_key ha, shaped_key hb, h⟩
  | inr x =>
    cases b with
    | inl j => exact ⟨.str x, .int j, .str x, .int j, shaped_key ha, shaped_key hb, h⟩
    | inr y =>
      show Q (.bl (decide (x = y))) H
      have e : decide ((Sum.inr x : Key) = Sum.inr y) = decide (x = y) := by simp
      rw [← e]
      exact h
end K02

set_option Elab.async false
set_option linter.all false
set_option maxRecDepth 100000
set_option maxHeartbeats 4000000
namespace K02
open PySem L2 PySem.KX StX
abbrev s_law_forward : Stmt := top 34
abbrev N_fw : List Str := ["edges", "begin", "found", "waiting", "here", "one", "other"]
theorem sc_law_forward : FnScope N_fw ["edges", "begin"] (defScope s_law_forward) := ⟨rfl, rfl, rfl, by decide +kernel, rfl, by decide +kernel, by decide +kernel⟩
theorem paired_get {α β : Type} {R : α → β → Prop} : ∀ {xs : List α} {ys : List β} {i : Nat} {x : α}, Paired R xs ys → xs[i]? = some x → ∃ y, ys[i]? = some y ∧ R x y
  | _, _, _, _, .nil, e => by simp at e
  | _, _, 0, _, .cons h _, e => by
    simp at e
    subst e
    exact ⟨_, rfl, h⟩
  | _, _, i + 1, _, .cons _ t, e => by
    obtain ⟨y, h1, h2⟩ := paired_get (i := i) t (by simpa using e)
    exact ⟨y, by simpa using h1, h2⟩
section
variable {P : Program} {w : World} {K : PySem.W.Frag} {mg : Str → Option Value} {base : Heap}
def spFwd (K : PySem.W.Frag) : Sp := fun vs H Q _ => ∃ (e : Addr) (b : Key) (es : List EdgeK) (xs : List V), vs = [.ref e, kV b] ∧ SqL K H e xs ∧ RowsAt H xs (es.map edgeR) ∧ es.length ≤ 10000 ∧ (∀ p ∈ es, okK p.1 = true ∧ okK p.2 = true) ∧ okK b = true ∧
  ∀ (a : Addr) (fs : List Key) (H' : Hp), Same H H' → H a = none → H' a = some (.lst (fs.map kV)) → (∀ k, k ∈ fs ↔ BReach es b k) → fs.length ≤ 10001 → Q (.ref a) H'
def WF (H : Hp) (e : Addr) (b : Key) (F L : Addr) (es : List EdgeK) (m : Nat) (σ : L2.St) (H' : Hp) : Prop := ∃ (fs ws : List Key) (o4 o5 o6 : Option V), σ = [some (.ref e), some (kV b), some (.ref F), some (.ref L), o4, o5, o6] ∧ H' F = some (.lst (fs.map kV)) ∧ H' L = some (.lst (ws.map kV)) ∧ Fwd es b fs ws none ∧ m = muF es b fs ws ∧ m ≤ 20003 ∧ Same H H'
theorem ok_law_forward {f : Addr} {fd : FuncData} (F : Fun K "_law_forward" "_law_forward" s_law_forward f fd) : FnG P w K mg base CX0 1 f fd ["edges", "begin"] (spFwd K) := by
  have nd := sc_law_forward.nd
  refine okG F sc_law_forward (fun vs H Q E h => ?_) (fun cdv A outer s H vs Q E hr h => ?_)
  · obtain ⟨_, _, _, _, rfl, _⟩ := h
    rfl
  · obtain ⟨e, b, es, xs, rfl, he, hx, hn, hok, hob, k⟩ := h
    refine ⟨_, (pss_cons (ps_par (i := 2) (j := 3) (by rfl) nd rfl rfl (by decide) rfl rfl (pa_cons (pe_lstS (pa_cons (av 1) pa_nil)) (pa_cons (pe_lstS (pa_cons (av 1) pa_nil)) pa_nil)) (by rfl))
      (pss_cons (ps_while PassesOwn.never (pt_cmpA (op_neA hr.units64) (av 3) (pe_lstS pa_nil)) (pss_cons (ps_set (i := 4) nd rfl (Or.inl rfl) (pe_bm0 PySem.F.plainAttrs_list PySem.F.slot_list_pop PySem.F.type_list_pop mt_pop (av 3)))
      (pss_one (ps_for PassesOwn.never rfl (pi_list (av 0)) (pg_tup rfl (pgs_cons (pg_name (i := 5) nd rfl (Or.inl rfl)) (pgs_cons (pg_name (i := 6) nd rfl (Or.inl rfl)) pgs_nil))) (pss_one (ps_if (PW.pt (pw_and (pt_cmpA (op_eqA hr.units64) (av 5) (av 4)) (pw_and1 (pt_cmpA op_notIn_seq (av 6) (av 2))))) (pss_cons (ps_expr (pe_bm PySem.F.plainAttrs_list PySem.F.slot_list_append PySem.F.type_list_append mt_append (av 2) (pa_cons (av 6) pa_nil)))
      (pss_one (ps_expr (pe_bm PySem.F.plainAttrs_list PySem.F.slot_list_append PySem.F.type_list_append mt_append (av 3) (pa_cons (av 6) pa_nil))))) pss_nil))))))
      (pss_one (ps_ret (av 2))))), ?_⟩
    have hxl := rows_len hx
    rw [List.length_map] at hxl
    refine ⟨by simp, fun F H1 s1 n1 l1 => ?_⟩
    refine ⟨by simp, fun L H2 s2 n2 l2 => ?_⟩
    have hLH : H L = none := s1.free n2
    have l1' := s2 _ _ l1
    have hFL : F ≠ L := fun z => by rw [← z, l1] at n2; cases n2
    refine ⟨_, _, rfl, ?_⟩
    have okall : ∀ k, k ∈ b :: es.map (·.2) → okK k = true := fun k hk => by
      rcases List.mem_cons.mp hk with rfl | z
      · exact hob
      · obtain ⟨q, hq, rfl⟩ := List.mem_map.mp z
        exact (hok q hq).2
    have sL : ∀ {H' : Hp} {ys : List V}, Same H H' → Same H (upd H' L (.lst ys)) := fun {H' ys} s b o e => by rw [upd_ne (ne_of_none e hLH)]; exact s b o e
    have sF : ∀ {H' : Hp} {ys : List V}, Same H H' → Same H (upd H' F (.lst ys)) := fun {H' ys} s b o e => by rw [upd_ne (ne_of_none e n1)]; exact s b o e
    refine ⟨WF H e b F L es, ⟨_, [b], [b], _, _, _, rfl, l1', l2, Fwd.start, rfl, ?_, s1.trans s2⟩, ?_⟩
    · unfold muF
      have := List.length_filter_le (fun k => !decide (k ∈ [b])) (b :: es.map (·.2))
      simp only [List.length_cons, List.length_map, List.length_nil] at this ⊢
      omega
    rintro m σ H3 ⟨fs, ws, o4, o5, o6, rfl, hF, hL, hS, rfl, hm, s3⟩
    refine ⟨by simp, fun p6 H6 s6 n6 l6 => ?_⟩
    have hwok : ∀ k ∈ ws, okK k = true := fun k hk => okall k (hS.sub k (hS.wait k hk))
    have s36 := s3.trans s6
    have hF6 := s6 _ _ hF
    have hL6 := s6 _ _ hL
    refine ⟨.list (ws.map kD), .list [], .lst (SqL.of hL6) (keys_dp ws), .lst (SqL.of l6) .nil, keys_shaped hwok, by decide +kernel, ?_⟩
    rw [eqv_nil]
    rcases List.eq_nil_or_concat ws with rfl | ⟨ws0, p, rfl⟩
    · exact iteF (k F fs H6 s36 n1 hF6 (fun j => hS.end j) (by have := hS.len; omega))
    rw [List.concat_eq_append] at hL6 hS hm hwok ⊢
    have e0 : (!decide ((ws0 ++ [p]).map kD = [])) = true := by simp
    rw [e0]
    refine iteT ⟨fun σ' H' => ∃ m', m' < muF es b fs (ws0 ++ [p]) ∧ WF H e b F L es m' σ' H', fun σ' H' h => h, ?_⟩
    have hL' : H6 L = some (.lst (ws0.map kV ++ [kV p])) := by rw [hL6, List.map_append]; rfl
    refine ⟨.inl ⟨rfl, _, SqL.of hL6⟩, L, ws0.map kV ++ [kV p], kV p, rfl, rfl, hL', by simp, ?_⟩
    have eH : upd H6 L (.lst (ws0.map kV ++ [kV p]).dropLast) = upd H6 L (.lst (ws0.map kV)) := by rw [List.dropLast_concat]
    rw [eH]
    have hmu : muF es b fs (ws0 ++ [p]) = muF es b fs ws0 + 1 := by
      unfold muF
      rw [List.length_append, List.length_singleton]
      omega
    have hpok := hwok p (List.mem_append_right _ (List.mem_singleton.mpr rfl))
    refine ⟨e, rfl, ⟨_, (sL s36).sqL he⟩, ?_⟩
    refine for_it (walk_list (xs := xs)) (fun i σ H' => ∃ (fs' ws : List Key) (o5 o6 : Option V), σ = [some (.ref e), some (kV b), some (.ref F), some (.ref L), some (kV p), o5, o6] ∧ H' F = some (.lst (fs'.map kV)) ∧ H' L = some (.lst (ws.map kV)) ∧ Fwd es b fs' ws (some (p, i)) ∧ muF es b fs' ws ≤ muF es b fs ws0 ∧ Same H H')
      ⟨fs, ws0, _, _, rfl, by rw [upd_ne hFL]; exact hF6, upd_same, hS.take, Nat.le_refl _, sL s36⟩ (fun i σ H' _ ⟨_, _, _, _, _, _, _, _, _, s⟩ => s.sqL he) ?_ ?_
    · rintro i x σ H7 H8 hi ⟨fs', ws, o5, o6, rfl, hF7, hL7, hS7, hmu7, s7⟩ ⟨rfl, hxx⟩
      obtain ⟨row, hrow, hx2⟩ : ∃ row, (es.map edgeR)[i]? = some row ∧ IsRow H x row := paired_get hx hxx
      obtain ⟨ed, hed, rfl⟩ : ∃ ed, es[i]? = some ed ∧ edgeR ed = row := by
        rw [List.getElem?_map] at hrow
        cases c : es[i]? with
        | none => rw [c] at hrow; cases hrow
        | some ed => rw [c] at hrow; exact ⟨ed, rfl, Option.some.inj hrow⟩
      obtain ⟨q, j⟩ := ed
      obtain ⟨t, rfl, ht⟩ := hx2
      obtain ⟨ok1, ok2⟩ := hok _ (List.mem_of_getElem? hed)
      refine ⟨t, _, rfl, SqT.of (s7 _ _ ht), rfl, _, _, rfl, _, _, rfl, rfl, ?_⟩
      dsimp only [tIfS, tAnd, aTest, tOp, aVar, List.set, List.getElem?_cons_succ, List.getElem?_cons_zero]
      refine eq_key ok1 hpok ?_
      refine ite2 (fun c => ?_) (fun c => ?_)
      · have eq : q = p := of_decide_eq_true c
        subst eq
        refine ⟨F, _, rfl, .inl (SqL.of hF7), flat_key j, flat_keys fs', ?_⟩
        rw [if_pos rfl, inV_key]
        refine ite2 (fun c2 => ?_) (fun c2 => ?_)
        · have hjn : j ∉ fs' := fun z => by
            rw [decide_eq_true z] at c2
            exact absurd c2 (by decide)
          have hl1 := hS7.len
          have hl2 : ws.length ≤ muF es b fs' ws := by unfold muF; omega
          refine ⟨.inl ⟨rfl, _, SqL.of hF7⟩, F, _, kV j, rfl, rfl, hF7, by rw [List.length_map, sizeLine_eq]; omega, ?_⟩
          have hL9 : upd H8 F (.lst (fs'.map kV ++ [kV j])) L = some (.lst (ws.map kV)) := by rw [upd_ne (Ne.symm hFL)]; exact hL7
          refine ⟨.inl ⟨rfl, _, SqL.of hL9⟩, L, _, kV j, rfl, rfl, hL9, by rw [List.length_map, sizeLine_eq]; omega, ?_⟩
          refine ⟨fs' ++ [j], ws ++ [j], _, _, rfl, ?_, ?_, hS7.more hed hjn, ?_, sL (sF s7)⟩
          · rw [upd_ne hFL, upd_same, List.map_append]
            rfl
          · rw [upd_same, List.map_append]
            rfl
          · exact Nat.le_trans (muF_more (List.mem_cons_of_mem _ (List.mem_map.mpr ⟨_, List.mem_of_getElem? hed, rfl⟩)) hjn) hmu7
        · have hjn : j ∈ fs' := by
            have := bfalse c2
            exact of_decide_eq_true this
          exact ⟨fs', ws, _, _, rfl, hF7, hL7, hS7.skip hed fun _ => hjn, hmu7, s7⟩
      · have ne : q ≠ p := fun z => c (decide_eq_true z)
        exact ⟨fs', ws, _, _, rfl, hF7, hL7, hS7.skip hed fun z => absurd z ne, hmu7, s7⟩
    · rintro σ H7 ⟨fs', ws, o5, o6, rfl, hF7, hL7, hS7, hmu7, s7⟩
      rw [hxl] at hS7
      exact ⟨_, by omega, fs', ws, _, _, _, rfl, hF7, hL7, hS7.next, rfl, by omega, s7⟩
end
end K02

set_option Elab.async false
set_option linter.all false
set_option maxRecDepth 100000
set_option maxHeartbeats 4000000
/-! the law's search and the program's find the same. -/
namespace K02
open PySem L2 PySem.KX StX
def edgesR (r : RowN) : List EdgeK := r.2.1.map (fun k => (.inl k, .inr r.1)) ++ r.2.2.map (fun k => (.inr r.1, .inl k))
def edgesL (rows : List RowN) : List EdgeK := rows.flatMap edgesR
def swapE (e : EdgeK) : EdgeK := (e.2, e.1)
theorem mem_edgesR {r : RowN} {a b : Key} : (a, b) ∈ edgesR r ↔ (∃ k ∈ r.2.1, a = .inl k ∧ b = .inr r.1) ∨ ∃ k ∈ r.2.2, a = .inr r.1 ∧ b = .inl k := by
  unfold edgesR
  rw [List.mem_append, List.mem_map, List.mem_map]
  constructor
  · rintro (⟨k, hk, e⟩ | ⟨k, hk, e⟩)
    · cases e; exact .inl ⟨k, hk, rfl, rfl⟩
    · cases e; exact .inr ⟨k, hk, rfl, rfl⟩
  · rintro (⟨k, hk, rfl, rfl⟩ | ⟨k, hk, rfl, rfl⟩)
    · exact .inl ⟨k, hk, rfl⟩
    · exact .inr ⟨k, hk, rfl⟩
theorem mem_edgesL {rows : List RowN} {a b : Key} : (a, b) ∈ edgesL rows ↔ ∃ r ∈ rows, (a, b) ∈ edgesR r := by
  unfold edgesL
  rw [List.mem_flatMap]
theorem mem_swap {es : List EdgeK} {a b : Key} : (a, b) ∈ es.map swapE ↔ (b, a) ∈ es := by
  rw [List.mem_map]
  constructor
  · rintro ⟨⟨x, y⟩, h, e⟩
    cases e
    exact h
  · intro h
    exact ⟨(b, a), h, rfl⟩
theorem flip_edges {rows : List RowN} (a b : Key) : (a, b) ∈ (edgesL rows).map swapE ↔ (a, b) ∈ edgesL (rows.map flipR) := by
  rw [mem_swap, mem_edgesL, mem_edgesL]
  constructor
  · rintro ⟨r, hr, h⟩
    refine ⟨flipR r, List.mem_map.mpr ⟨r, hr, rfl⟩, mem_edgesR.mpr ?_⟩
    rcases mem_edgesR.mp h with ⟨k, hk, e1, e2⟩ | ⟨k, hk, e1, e2⟩
    · exact .inr ⟨k, hk, e2, e1⟩
    · exact .inl ⟨k, hk, e2, e1⟩
  · rintro ⟨r, hr, h⟩
    obtain ⟨q, hq, rfl⟩ := List.mem_map.mp hr
    refine ⟨q, hq, mem_edgesR.mpr ?_⟩
    rcases mem_edgesR.mp h with ⟨k, hk, e1, e2⟩ | ⟨k, hk, e1, e2⟩
    · exact .inr ⟨k, hk, e2, e1⟩
    · exact .inl ⟨k, hk, e2, e1⟩
theorem breach_congr {es fs : List EdgeK} (h : ∀ a b, (a, b) ∈ es ↔ (a, b) ∈ fs) {b k : Key} : BReach es b k ↔ BReach fs b k := by
  constructor
  · intro r
    induction r with
    | base => exact .base
    | step _ he ih => exact .step ih ((h _ _).mp he)
  · intro r
    induction r with
    | base => exact .base
    | step _ he ih => exact .step ih ((h _ _).mpr he)
/-- the word of a key -/
def KeyR (rows : List RowN) (b : Int) : Key → Prop
  | .inl k => Reach rows b k
  | .inr x => ∃ r ∈ rows, r.1 = x ∧ ∃ k ∈ r.2.1, Reach rows b k
theorem name_one {rows : List RowN} (nd : (rows.map (·.1)).Nodup) {r q : RowN} (hr : r ∈ rows) (hq : q ∈ rows) (e : r.1 = q.1) : r = q := by
  induction rows with
  | nil => exact absurd hr List.not_mem_nil
  | cons z l ih =>
    rw [List.map_cons, List.nodup_cons] at nd
    rcases List.mem_cons.mp hr with e1 | h1
    · rcases List.mem_cons.mp hq with e2 | h2
      · rw [e1, e2]
      · have : z.1 ∈ l.map (·.1) := List.mem_map.mpr ⟨q, h2, by rw [← e, e1]⟩
        exact absurd this nd.1
    · rcases List.mem_cons.mp hq with e2 | h2
      · have : z.1 ∈ l.map (·.1) := List.mem_map.mpr ⟨r, h1, by rw [e, e2]⟩
        exact absurd this nd.1
      · exact ih nd.2 h1 h2
theorem breach_is {rows : List RowN} (nd : (rows.map (·.1)).Nodup) {b : Int} {k : Key} : BReach (edgesL rows) (.inl b) k ↔ KeyR rows b k := by
  have back : ∀ {j : Int}, Reach rows b j → BReach (edgesL rows) (.inl b) (.inl j) := fun {j} h => by
    induction h with
    | base => exact .base
    | step _ hr hk hj ih => exact .step (.step ih (mem_edgesL.mpr ⟨_, hr, mem_edgesR.mpr (.inl ⟨_, hk, rfl, rfl⟩)⟩)) (mem_edgesL.mpr ⟨_, hr, mem_edgesR.mpr (.inr ⟨_, hj, rfl, rfl⟩)⟩)
  constructor
  · refine BReach.least (b := .inl b) (S := KeyR rows b) (show Reach rows b b from .base) fun e he hS => ?_
    obtain ⟨a, c⟩ := e
    obtain ⟨r, hr, hm⟩ := mem_edgesL.mp he
    rcases mem_edgesR.mp hm with ⟨j, hj, e1, e2⟩ | ⟨j, hj, e1, e2⟩
    · subst e1
      subst e2
      exact ⟨r, hr, rfl, j, hj, hS⟩
    · subst e1
      subst e2
      obtain ⟨q, hq, eq, i, hi, hR⟩ := hS
      have := name_one nd hq hr eq
      subst this
      exact .step hR hq hi hj
  · intro h
    cases k with
    | inl j => exact back h
    | inr x =>
      obtain ⟨r, hr, rfl, i, hi, hR⟩ := h
      exact .step (back hR) (mem_edgesL.mpr ⟨r, hr, mem_edgesR.mpr (.inl ⟨i, hi, rfl, rfl⟩)⟩)
theorem flip_names (rows : List RowN) : (rows.map flipR).map (·.1) = rows.map (·.1) := by
  rw [List.map_map]
  rfl
open Classical in
theorem badP_is {rows : List RowN} (nd : (rows.map (·.1)).Nodup) {as bs : List Key} (ha : ∀ k, k ∈ as ↔ BReach (edgesL rows) (.inl 0) k) (hb : ∀ k, k ∈ bs ↔ BReach ((edgesL rows).map swapE) (.inl 1) k) (k : Int) :
    (!decide ((Sum.inl k : Key) ∈ as.filter fun t => decide (t ∈ bs))) = badP rows k := by
  have nd2 : ((rows.map flipR).map (·.1)).Nodup := by rw [flip_names]; exact nd
  have ea : (Sum.inl k : Key) ∈ as ↔ Reach rows 0 k := (ha _).trans (breach_is nd)
  have eb : (Sum.inl k : Key) ∈ bs ↔ Reach (rows.map flipR) 1 k := (hb _).trans ((breach_congr flip_edges).trans (breach_is nd2))
  unfold badP reachB
  by_cases h1 : Reach rows 0 k <;> by_cases h2 : Reach (rows.map flipR) 1 k <;> simp [List.mem_filter, ea, eb, h1, h2]
open Classical in
theorem badR_is {rows : List RowN} (nd : (rows.map (·.1)).Nodup) {as bs : List Key} (ha : ∀ k, k ∈ as ↔ BReach (edgesL rows) (.inl 0) k) (hb : ∀ k, k ∈ bs ↔ BReach ((edgesL rows).map swapE) (.inl 1) k) {r : RowN} (hr : r ∈ rows) :
    (!decide ((Sum.inr r.1 : Key) ∈ as.filter fun t => decide (t ∈ bs))) = badR rows r := by
  have nd2 : ((rows.map flipR).map (·.1)).Nodup := by rw [flip_names]; exact nd
  have ea : (Sum.inr r.1 : Key) ∈ as ↔ r.2.1.any (reachB rows 0) = true := by
    rw [ha, breach_is nd, List.any_eq_true]
    constructor
    · rintro ⟨q, hq, e, i, hi, hR⟩
      have := name_one nd hq hr e
      subst this
      exact ⟨i, hi, decide_eq_true hR⟩
    · rintro ⟨i, hi, hR⟩
      exact ⟨r, hr, rfl, i, hi, of_decide_eq_true hR⟩
  have eb : (Sum.inr r.1 : Key) ∈ bs ↔ r.2.2.any (reachB (rows.map flipR) 1) = true := by
    rw [hb, breach_congr flip_edges, breach_is nd2, List.any_eq_true]
    constructor
    · rintro ⟨q, hq, e, i, hi, hR⟩
      obtain ⟨z, hz, rfl⟩ := List.mem_map.mp hq
      have := name_one nd hz hr e
      subst this
      exact ⟨i, hi, decide_eq_true hR⟩
    · rintro ⟨i, hi, hR⟩
      exact ⟨flipR r, List.mem_map.mpr ⟨r, hr, rfl⟩, rfl, i, hi, of_decide_eq_true hR⟩
  unfold badR
  cases h1 : r.2.1.any (reachB rows 0) <;> cases h2 : r.2.2.any (reachB (rows.map flipR) 1) <;> simp [List.mem_filter, ea, eb, h1, h2]
/-! the first loop's finds -/
def oneL (r : RowN) : List RowK := (if decide ((0 : Int) ∈ r.2.2) = true then [dStart r.1] else []) ++ if decide ((1 : Int) ∈ r.2.1) = true then [dEnd r.1] else []
theorem ones_perm : ∀ rows : List RowN, (rows.flatMap oneL).Perm (startsL rows ++ endsL rows)
  | [] => List.Perm.refl _
  | r :: rows => by
    have ih := ones_perm rows
    rw [List.flatMap_cons]
    unfold startsL endsL at ih ⊢
    rw [List.filter_cons, List.filter_cons]
    generalize hF : rows.flatMap oneL = F at ih ⊢
    unfold oneL
    cases decide ((0 : Int) ∈ r.2.2) <;> cases decide ((1 : Int) ∈ r.2.1) <;> simp only [Bool.false_eq_true, if_false, if_true, List.nil_append, List.append_nil, List.map_cons, List.cons_append]
    · exact ih
    · exact (ih.cons _).trans List.perm_middle.symm
    · exact ih.cons _
    · exact ((ih.cons _).trans List.perm_middle.symm).cons _
end K02

set_option Elab.async false
set_option linter.all false
set_option maxRecDepth 100000
set_option maxHeartbeats 4000000
namespace K02
open PySem L2 PySem.KX StX
theorem pss_any {X : Cx} {rest : List Stmt} : PSs X rest (fun D σ H => ∃ t, PSs X rest t ∧ t D σ H) := ⟨fun pins s σ H D I ⟨t, h, q⟩ => h.run pins s σ H D I q⟩
theorem isrow_upd {H : Hp} {F : Addr} {xs : List V} {o : HO} {v : V} {r : RowK} (hF : H F = some (.lst xs)) (h : IsRow H v r) : IsRow (upd H F o) v r := by
  obtain ⟨t, e, ht⟩ := h
  refine ⟨t, e, ?_⟩
  rw [upd_ne (fun z => by rw [z, hF] at ht; cases ht)]
  exact ht
theorem rows_upd {H : Hp} {F : Addr} {xs : List V} {o : HO} (hF : H F = some (.lst xs)) : ∀ {vs : List V} {rs : List RowK}, RowsAt H vs rs → RowsAt (upd H F o) vs rs
  | _, _, .nil => .nil
  | _, _, .cons h t => .cons (isrow_upd hF h) (rows_upd hF t)
abbrev s_law_defects : Stmt := top 35
abbrev N_ld : List Str := ["net", "total", "steps", "found", "edges", "name", "ins", "outs", "at", "other", "others", "rest", "ahead", "behind", "both", "place", "one", "thing", "step"]
theorem sc_law_defects : FnScope N_ld ["net"] (defScope s_law_defects) := ⟨rfl, rfl, rfl, by decide +kernel, rfl, by decide +kernel, by decide +kernel⟩
abbrev X_ld (P : Program) (w : World) (K : PySem.W.Frag) (mg : Str → Option Value) (base : Heap) (f : Addr) (cdv : Value) (A : Around) (outer : List Env) (s : Shared) (H : Hp) (E : XK) : Cx := (cxOf CX0 P w K mg base N_ld "_law_defects" (defScope s_law_defects) f cdv A outer s H E).nox
section
variable {P : Program} {w : World} {K : PySem.W.Frag} {mg : Str → Option Value} {base : Heap} {f : Addr} {cdv : Value} {A : Around} {outer : List Env} {s : Shared} {H0 : Hp} {E0' : XK}
theorem ld_edges {Hb H : Hp} {D : Ends} {v0 : V} {n : Int} {S F Ed : Addr} {xs : List V} {rows : List RowN} {o5 o6 o7 o8 o9 o10 o11 o12 o13 o14 o15 o16 o17 o18 : Option V} (hS : SqT K Hb S xs) (hx : DqAll K Hb xs (rows.map rowD)) (hfew : rows.length ≤ 40) (hside : ∀ r ∈ rows, r.2.1.length ≤ 30 ∧ r.2.2.length ≤ 30) (hF : H F = some (.lst [])) (hE : H Ed = some (.lst [])) (hFE : F ≠ Ed) (hF0 : Hb F = none) (hE0 : Hb Ed = none) (sb : Same Hb H)
    (q : ∀ (ac ed : List V) (o5 o6 o7 o15 : Option V) (H' : Hp), Same Hb H' → H' F = some (.lst ac) → H' Ed = some (.lst ed) → RowsAt H' ac (rows.flatMap oneL) → RowsAt H' ed ((edgesL rows).map edgeR) → ac.length ≤ 80 → ed.length ≤ 2400 →
      ∃ t, PSs (X_ld P w K mg base f cdv A outer s H0 E0') ((defBody s_law_defects).drop 3) t ∧ t D [some v0, some (.int n), some (.ref S), some (.ref F), some (.ref Ed), o5, o6, o7, o8, o9, o10, o11, o12, o13, o14, o15, o16, o17, o18] H') :
    ∃ t, PSs (X_ld P w K mg base f cdv A outer s H0 E0') ((defBody s_law_defects).drop 2) t ∧ t D [some v0, some (.int n), some (.ref S), some (.ref F), some (.ref Ed), o5, o6, o7, o8, o9, o10, o11, o12, o13, o14, o15, o16, o17, o18] H := by
  have nd := sc_law_defects.nd
  refine ⟨_, (pss_cons (ps_for PassesOwn.never rfl (pi_tup (av 2)) (pg_tup rfl (pgs_cons (pg_name (i := 5) nd rfl (by first | exact Or.inl rfl | exact Or.inr rfl)) (pgs_cons (pg_name (i := 6) nd rfl (by first | exact Or.inl rfl | exact Or.inr rfl)) (pgs_cons (pg_name (i := 7) nd rfl (by first | exact Or.inl rfl | exact Or.inr rfl)) pgs_nil)))) (pss_cut (ps_if (pt_cmpA op_in_seq pe_int (av 7)) (pss_one (ps_expr (pe_appS (av 3) (pe_tupS (pa_cons pe_str (pa_cons (av 5) pa_nil)))))) pss_nil)
      (pss_cut (ps_if (pt_cmpA op_in_seq pe_int (av 6)) (pss_one (ps_expr (pe_appS (av 3) (pe_tupS (pa_cons pe_str (pa_cons (av 5) pa_nil)))))) pss_nil)
      (pss_cons (ps_expr (pe_bm PySem.F.plainAttrs_list PySem.F.slot_list_extend PySem.F.type_list_extend mt_extend (av 4) (pa_cons (pe_lc (own := [("place", 15)]) (by rfl) nd (pi_tup (av 6)) (blkOk_by (N := N_ld) (sc := defScope s_law_defects) (by decide +kernel)) (fun _ _ _ _ _ => (pg_name (i := 15) nd rfl (by first | exact Or.inl rfl | exact Or.inr rfl))) (fun _ _ _ _ _ => pts_nil) (fun _ _ _ _ _ => (pe_tupS (pa_cons (av 15) (pa_cons (av 5) pa_nil))))) pa_nil)))
      (pss_one (ps_expr (pe_bm PySem.F.plainAttrs_list PySem.F.slot_list_extend PySem.F.type_list_extend mt_extend (av 4) (pa_cons (pe_lc (own := [("place", 15)]) (by rfl) nd (pi_tup (av 7)) (blkOk_by (N := N_ld) (sc := defScope s_law_defects) (by decide +kernel)) (fun _ _ _ _ _ => (pg_name (i := 15) nd rfl (by first | exact Or.inl rfl | exact Or.inr rfl))) (fun _ _ _ _ _ => pts_nil) (fun _ _ _ _ _ => (pe_tupS (pa_cons (av 5) (pa_cons (av 15) pa_nil))))) pa_nil))))))))
      pss_any), ?_⟩
  have hxl := hx.length
  rw [List.length_map] at hxl
  have sF : ∀ {H' : Hp} {o : HO}, Same Hb H' → Same Hb (upd H' F o) := fun {H' o} s b o e => by rw [upd_ne (ne_of_none e hF0)]; exact s b o e
  have sE : ∀ {H' : Hp} {o : HO}, Same Hb H' → Same Hb (upd H' Ed o) := fun {H' o} s b o e => by rw [upd_ne (ne_of_none e hE0)]; exact s b o e
  refine ⟨S, rfl, ⟨_, sb.sqT hS⟩, ?_⟩
  refine for_it (walk_tup (xs := xs)) (fun i σ H' => ∃ (ac ed : List V) (o5 o6 o7 o15 : Option V), σ = [some v0, some (.int n), some (.ref S), some (.ref F), some (.ref Ed), o5, o6, o7, o8, o9, o10, o11, o12, o13, o14, o15, o16, o17, o18] ∧ Same Hb H' ∧ H' F = some (.lst ac) ∧ H' Ed = some (.lst ed) ∧ RowsAt H' ac ((rows.take i).flatMap oneL) ∧ RowsAt H' ed ((edgesL (rows.take i)).map edgeR) ∧ ac.length ≤ 2 * i ∧ ed.length ≤ 60 * i)
    ⟨[], [], _, _, _, _, rfl, sb, hF, hE, .nil, .nil, by simp, by simp⟩ (fun i σ H' _ ⟨_, _, _, _, _, _, _, s, _⟩ => s.sqT hS) ?_ ?_
  · rintro i x σ H2 H3 hi ⟨ac, ed, p5, p6, p7, p15, rfl, s3, hF3, hE3, hac, hed, hal, hel⟩ ⟨rfl, hxx⟩
    obtain ⟨d, hd, hdq⟩ := hx.get hxx
    obtain ⟨r, hr1, rfl⟩ := row_of_map hd
    obtain ⟨t, a1, a2, rfl, ht, ha1, ha2⟩ := row_at hdq
    obtain ⟨l1, l2⟩ := hside r (List.mem_of_getElem? hr1)
    refine ⟨t, _, rfl, s3.sqT ht, rfl, _, _, rfl, _, _, rfl, _, _, rfl, rfl, ?_⟩
    -- the first test
    refine ⟨fun σ H' => ∃ (ac' : List V), σ = [some v0, some (.int n), some (.ref S), some (.ref F), some (.ref Ed), some (.str r.1), some (.ref a1), some (.ref a2), o8, o9, o10, o11, o12, o13, o14, p15, o16, o17, o18] ∧ Same Hb H' ∧ H' F = some (.lst ac') ∧ H' Ed = some (.lst ed) ∧ RowsAt H' ac' ((rows.take i).flatMap oneL ++ if decide ((0 : Int) ∈ r.2.2) = true then [dStart r.1] else []) ∧ RowsAt H' ed ((edgesL (rows.take i)).map edgeR) ∧ ac'.length ≤ 2 * i + 1, ?_, ?_⟩
    · refine ⟨a2, _, rfl, .inr (s3.sqT ha2), rfl, flat_ints _, ?_⟩
      rw [if_neg (c := (false : Bool) = true) (by decide), inV_int]
      refine ite2 (fun c => ?_) (fun c => ?_)
      · refine ⟨F, ac, rfl, hF3, by simp, fun q4 H4 s4 n4 l4 => ?_⟩
        have hF4 := s4 _ _ hF3
        refine ⟨ac, hF4, by omega, ac ++ [.ref q4], rfl, sF (s3.trans s4), upd_same, ?_, ?_, ?_, by simp; omega⟩
        · rw [upd_ne (Ne.symm hFE)]
          exact s4 _ _ hE3
        · rw [if_pos c]
          exact rows_upd hF4 (rows_snoc (hac.same s4) ⟨q4, rfl, l4⟩)
        · exact rows_upd hF4 (hed.same s4)
      · exact ⟨ac, rfl, s3, hF3, hE3, by rw [if_neg c, List.append_nil]; exact hac, hed, by omega⟩
    rintro σ H4 ⟨ac1, rfl, s4, hF4, hE4, hac4, hed4, hal4⟩
    refine ⟨fun σ H' => ∃ (ac' : List V), σ = [some v0, some (.int n), some (.ref S), some (.ref F), some (.ref Ed), some (.str r.1), some (.ref a1), some (.ref a2), o8, o9, o10, o11, o12, o13, o14, p15, o16, o17, o18] ∧ Same Hb H' ∧ H' F = some (.lst ac') ∧ H' Ed = some (.lst ed) ∧ RowsAt H' ac' ((rows.take i).flatMap oneL ++ oneL r) ∧ RowsAt H' ed ((edgesL (rows.take i)).map edgeR) ∧ ac'.length ≤ 2 * i + 2, ?_, ?_⟩
    · refine ⟨a1, _, rfl, .inr (s4.sqT ha1), rfl, flat_ints _, ?_⟩
      rw [if_neg (c := (false : Bool) = true) (by decide), inV_int]
      refine ite2 (fun c => ?_) (fun c => ?_)
      · refine ⟨F, ac1, rfl, hF4, by simp, fun q5 H5 s5 n5 l5 => ?_⟩
        have hF5 := s5 _ _ hF4
        refine ⟨ac1, hF5, by omega, ac1 ++ [.ref q5], rfl, sF (s4.trans s5), upd_same, ?_, ?_, ?_, by simp; omega⟩
        · rw [upd_ne (Ne.symm hFE)]
          exact s5 _ _ hE4
        · unfold oneL
          rw [if_pos c, ← List.append_assoc]
          exact rows_upd hF5 (rows_snoc (hac4.same s5) ⟨q5, rfl, l5⟩)
        · exact rows_upd hF5 (hed4.same s5)
      · refine ⟨ac1, rfl, s4, hF4, hE4, ?_, hed4, by omega⟩
        unfold oneL
        rw [if_neg c, List.append_nil]
        exact hac4
    rintro σ H5 ⟨ac2, rfl, s5, hF5, hE5, hac5, hed5, hal5⟩
    -- the edges
    refine ⟨.inl ⟨rfl, _, SqL.of hE5⟩, ?_⟩
    refine ⟨a1, rfl, ⟨_, s5.sqT ha1⟩, fun D1 hD1 => ?_⟩
    have hDE1 : D1 ≠ Ed := fun z => by rw [z, hE5] at hD1; cases hD1
    refine lc_it (walk_tup (xs := r.2.1.map V.int)) (fun t H' => ∃ c3 : List V, H' D1 = some (.lst c3) ∧ RowsAt H' c3 (((r.2.1.take t).map (fun k : Int => ((.inl k, .inr r.1) : EdgeK))).map edgeR) ∧ c3.length ≤ t ∧ ∀ b o, H5 b = some o → H' b = some o)
      ⟨[], upd_same, .nil, by simp, fun b o e => by rw [upd_ne (ne_of_none e hD1)]; exact e⟩ (fun t H' _ ⟨_, _, _, _, kp⟩ => Same.sqT (s5.trans fun b o e => kp b o e) ha1) ?_ ?_
    · rintro t y H6 H7 ht ⟨c3, hc3, hr3, hl3, kp⟩ ⟨rfl, hy⟩
      rw [List.getElem?_map] at hy
      cases c2 : r.2.1[t]? with
      | none => rw [c2] at hy; cases hy
      | some z =>
        rw [c2] at hy
        cases hy
        rw [List.length_map] at ht
        refine ⟨rfl, by simp, fun q6 H8 s8 n8 l8 => ?_⟩
        have hc8 := s8 _ _ hc3
        refine ⟨c3, hc8, by rw [sizeLine_eq]; omega, c3 ++ [.ref q6], upd_same, ?_, by simp; omega, fun b o e => ?_⟩
        · rw [List.take_add_one, c2, List.map_append, List.map_append]
          exact rows_upd hc8 (rows_snoc (hr3.same s8) ⟨q6, rfl, l8⟩)
        · rw [upd_ne (ne_of_none e hD1)]
          exact s8 _ _ (kp _ _ e)
    rintro H61 ⟨c1, hc1, hr1x, hl1, kp1⟩
    rw [List.length_map] at hl1
    rw [List.length_map, List.take_length] at hr1x
    have s61 : Same Hb H61 := s5.trans fun b o e => kp1 b o e
    have hE61 := kp1 _ _ hE5
    have hF61 := kp1 _ _ hF5
    refine ⟨Ed, D1, _, c1, rfl, rfl, hE61, hc1, by rw [sizeLine_eq]; omega, ?_⟩
    have hF7 : upd H61 Ed (.lst (ed ++ c1)) F = some (.lst ac2) := by rw [upd_ne hFE]; exact hF61
    have hE7 : upd H61 Ed (.lst (ed ++ c1)) Ed = some (.lst (ed ++ c1)) := upd_same
    have s7 : Same Hb (upd H61 Ed (.lst (ed ++ c1))) := sE s61
    have hac7 : RowsAt (upd H61 Ed (.lst (ed ++ c1))) ac2 ((rows.take i).flatMap oneL ++ oneL r) := rows_upd hE61 (hac5.same fun b o e => kp1 b o e)
    have hed7 : RowsAt (upd H61 Ed (.lst (ed ++ c1))) (ed ++ c1) ((edgesL (rows.take i)).map edgeR ++ (r.2.1.map (fun k : Int => ((.inl k, .inr r.1) : EdgeK))).map edgeR) := rows_upd hE61 (rows_app (hed5.same fun b o e => kp1 b o e) hr1x)
    generalize upd H61 Ed (.lst (ed ++ c1)) = H7 at hF7 hE7 s7 hac7 hed7 ⊢
    refine ⟨.inl ⟨rfl, _, SqL.of hE7⟩, ?_⟩
    refine ⟨a2, rfl, ⟨_, s7.sqT ha2⟩, fun D2 hD2 => ?_⟩
    have hDE2 : D2 ≠ Ed := fun z => by rw [z, hE7] at hD2; cases hD2
    refine lc_it (walk_tup (xs := r.2.2.map V.int)) (fun t H' => ∃ c3 : List V, H' D2 = some (.lst c3) ∧ RowsAt H' c3 (((r.2.2.take t).map (fun k : Int => ((.inr r.1, .inl k) : EdgeK))).map edgeR) ∧ c3.length ≤ t ∧ ∀ b o, H7 b = some o → H' b = some o)
      ⟨[], upd_same, .nil, by simp, fun b o e => by rw [upd_ne (ne_of_none e hD2)]; exact e⟩ (fun t H' _ ⟨_, _, _, _, kp⟩ => Same.sqT (s7.trans fun b o e => kp b o e) ha2) ?_ ?_
    · rintro t y H6 H7 ht ⟨c3, hc3, hr3, hl3, kp⟩ ⟨rfl, hy⟩
      rw [List.getElem?_map] at hy
      cases c2 : r.2.2[t]? with
      | none => rw [c2] at hy; cases hy
      | some z =>
        rw [c2] at hy
        cases hy
        rw [List.length_map] at ht
        refine ⟨rfl, by simp, fun q6 H8 s8 n8 l8 => ?_⟩
        have hc8 := s8 _ _ hc3
        refine ⟨c3, hc8, by rw [sizeLine_eq]; omega, c3 ++ [.ref q6], upd_same, ?_, by simp; omega, fun b o e => ?_⟩
        · rw [List.take_add_one, c2, List.map_append, List.map_append]
          exact rows_upd hc8 (rows_snoc (hr3.same s8) ⟨q6, rfl, l8⟩)
        · rw [upd_ne (ne_of_none e hD2)]
          exact s8 _ _ (kp _ _ e)
    rintro H62 ⟨c2, hc2, hr2, hl2, kp2⟩
    rw [List.length_map] at hl2
    rw [List.length_map, List.take_length] at hr2
    have s62 : Same Hb H62 := s7.trans fun b o e => kp2 b o e
    have hE62 := kp2 _ _ hE7
    have hF62 := kp2 _ _ hF7
    refine ⟨Ed, D2, _, c2, rfl, rfl, hE62, hc2, by rw [sizeLine_eq]; rw [List.length_append]; omega, ?_⟩
    have s8 := s62
    have hF8 := hF62
    have hE8 := hE62
    have hac8 := hac7.same fun b o e => kp2 b o e
    have hed8 := hed7.same fun b o e => kp2 b o e
    have hr8 := hr2
    have etake : rows.take (i + 1) = rows.take i ++ [r] := by rw [List.take_add_one, hr1]; rfl
    refine ⟨ac2, _, _, _, _, _, rfl, sE s8, ?_, upd_same, ?_, ?_, by omega, ?_⟩
    · rw [upd_ne hFE]
      exact hF8
    · rw [etake, List.flatMap_append]
      have e1 : [r].flatMap oneL = oneL r := by simp
      rw [e1]
      exact rows_upd hE8 hac8
    · rw [etake]
      unfold edgesL
      rw [List.flatMap_append, List.map_append]
      have e1 : [r].flatMap edgesR = edgesR r := by simp
      rw [e1]
      unfold edgesR
      rw [List.map_append, ← List.append_assoc]
      exact rows_upd hE8 (rows_app hed8 hr8)
    · rw [List.length_append, List.length_append]
      omega
  · rintro σ H2 ⟨ac, ed, p5, p6, p7, p15, rfl, s2, hF2, hE2, hac, hed, hal, hel⟩
    rw [hxl, List.take_length] at hac hed
    exact q ac ed p5 p6 p7 p15 H2 s2 hF2 hE2 hac hed (by omega) (by omega)
end
end K02


set_option Elab.async false
set_option linter.all false
set_option maxRecDepth 100000
set_option maxHeartbeats 4000000
namespace K02
open PySem L2 PySem.KX StX
theorem ones_any {ns : List Int} {p : Int → Bool} : (!decide ((((ns.filter p).map fun _ => (1 : Int)).map PyData.int) = [])) = ns.any p := by
  induction ns with
  | nil => rfl
  | cons k r ih =>
    rw [List.filter_cons, List.any_cons]
    cases c : p k with
    | true => simp
    | false => simpa using ih
section
variable {P : Program} {w : World} {K : PySem.W.Frag} {mg : Str → Option Value} {base : Heap} {f : Addr} {cdv : Value} {A : Around} {outer : List Env} {s : Shared} {H0 : Hp} {E0' : XK}
theorem ld_choice {lv : Nat} (hr : RoomG lv (A.deeper (PyProof.Rows.envOfC "_law_defects" (defScope s_law_defects) s.heap.objs.size f cdv))) (hen : mg "enumerate" = none) {Hb H : Hp} {D : Ends} {v0 : V} {n : Int} {S F Ed : Addr} {xs ac0 ed : List V} {rows : List RowN} {pre er : List RowK} {o5 o6 o7 o8 o9 o10 o11 o12 o13 o14 o15 o16 o17 o18 : Option V} (hS : SqT K Hb S xs) (hx : DqAll K Hb xs (rows.map rowD)) (hfew : rows.length ≤ 40) (hside : ∀ r ∈ rows, r.2.1.length ≤ 30 ∧ r.2.2.length ≤ 30) (hF : H F = some (.lst ac0)) (hE : H Ed = some (.lst ed)) (hFE : F ≠ Ed) (hF0 : Hb F = none) (hE0 : Hb Ed = none) (sb : Same Hb H) (hac0 : RowsAt H ac0 pre) (hed0 : RowsAt H ed er) (hl0 : ac0.length ≤ 80)
    (q : ∀ (ac : List V) (o5 o6 o7 o8 o9 o10 o11 o15 : Option V) (H' : Hp), Same Hb H' → H' F = some (.lst ac) → H' Ed = some (.lst ed) → RowsAt H' ac (pre ++ choicesL rows) → RowsAt H' ed er → ac.length ≤ 1680 →
      ∃ t, PSs (X_ld P w K mg base f cdv A outer s H0 E0') ((defBody s_law_defects).drop 4) t ∧ t D [some v0, some (.int n), some (.ref S), some (.ref F), some (.ref Ed), o5, o6, o7, o8, o9, o10, o11, o12, o13, o14, o15, o16, o17, o18] H') :
    ∃ t, PSs (X_ld P w K mg base f cdv A outer s H0 E0') ((defBody s_law_defects).drop 3) t ∧ t D [some v0, some (.int n), some (.ref S), some (.ref F), some (.ref Ed), o5, o6, o7, o8, o9, o10, o11, o12, o13, o14, o15, o16, o17, o18] H := by
  have nd := sc_law_defects.nd
  refine ⟨_, (pss_cons (ps_for PassesOwn.never rfl (EnT.pi_enumT (by rfl) hen (pa_cons (av 2) pa_nil)) (pg_tup rfl (pgs_cons (pg_name (i := 8) nd rfl (by first | exact Or.inl rfl | exact Or.inr rfl)) (pgs_cons (pg_tup rfl (pgs_cons (pg_name (i := 5) nd rfl (by first | exact Or.inl rfl | exact Or.inr rfl)) (pgs_cons (pg_name (i := 6) nd rfl (by first | exact Or.inl rfl | exact Or.inr rfl)) (pgs_cons (pg_name (i := 7) nd rfl (by first | exact Or.inl rfl | exact Or.inr rfl)) pgs_nil)))) pgs_nil))) (pss_one (ps_for PassesOwn.never rfl (pi_tup (pe_slice sl_tupS (av 2) (po_some (pe_op op_addA (av 8) pe_int)) po_none)) (pg_tup rfl (pgs_cons (pg_name (i := 9) nd rfl (by first | exact Or.inl rfl | exact Or.inr rfl)) (pgs_cons (pg_name (i := 10) nd rfl (by first | exact Or.inl rfl | exact Or.inr rfl)) (pgs_cons (pg_name (i := 11) nd rfl (by first | exact Or.inl rfl | exact Or.inr rfl)) pgs_nil)))) (pss_one (ps_if (PW.pt (pw_and (pt_cmpA (op_neA hr.units64) (av 6) (av 10)) (pw_and1 (pt_cmpA (op_neA hr.units64) (pe_lc (own := [("place", 15)]) (by rfl) nd (pi_tup (av 6)) (blkOk_by (N := N_ld) (sc := defScope s_law_defects) (by decide +kernel)) (fun _ _ _ _ _ => (pg_name (i := 15) nd rfl (by first | exact Or.inl rfl | exact Or.inr rfl))) (fun _ _ _ _ _ => (pts_one (show PT _ _ (aTest (tOp (rIn K false) (aVar 15) (aVar 10))) from pt_cmpA op_in_seq (av 15) (av 10)))) (fun _ _ _ _ _ => pe_int)) (pe_lstS pa_nil))))) (pss_one (ps_expr (pe_appS (av 3) (pe_tupS (pa_cons pe_str (pa_cons (av 5) (pa_cons (av 9) pa_nil))))))) pss_nil)))))
      pss_any), ?_⟩
  have hxl := hx.length
  rw [List.length_map] at hxl
  have sF : ∀ {H' : Hp} {o : HO}, Same Hb H' → Same Hb (upd H' F o) := fun {H' o} s b o e => by rw [upd_ne (ne_of_none e hF0)]; exact s b o e
  refine ⟨S, xs, rfl, sb.sqT hS, ?_⟩
  refine for_it EnT.walk (fun i σ H' => ∃ (ac : List V) (o5 o6 o7 o8 o9 o10 o11 o15 : Option V), σ = [some v0, some (.int n), some (.ref S), some (.ref F), some (.ref Ed), o5, o6, o7, o8, o9, o10, o11, o12, o13, o14, o15, o16, o17, o18] ∧ Same Hb H' ∧ H' F = some (.lst ac) ∧ H' Ed = some (.lst ed) ∧ RowsAt H' ac (pre ++ (List.range i).flatMap (choicesAt rows)) ∧ RowsAt H' ed er ∧ ac.length ≤ 80 + 40 * i)
    ⟨ac0, _, _, _, _, _, _, _, _, rfl, sb, hF, hE, by simpa using hac0, hed0, by omega⟩ (fun i σ H' _ ⟨_, _, _, _, _, _, _, _, _, _, s, _⟩ => s.sqT hS) ?_ ?_
  · rintro i x σ H2 H3 hi ⟨ac, p5, p6, p7, p8, p9, p10, p11, p15, rfl, s2, hF2, hE2, hac, hed, hal⟩ ⟨T, x1, y1, rfl, nT, rfl, e1, hxx⟩
    cases e1
    obtain ⟨d, hd, hdq⟩ := hx.get hxx
    obtain ⟨r, hr1, rfl⟩ := row_of_map hd
    obtain ⟨t, p1, q1, rfl, ht, hp1, hq1⟩ := row_at hdq
    obtain ⟨hl1, _⟩ := hside r (List.mem_of_getElem? hr1)
    have sT : Same H2 (upd H2 T (.tup [.int (i : Nat), .ref t])) := (Same.refl _).new nT
    have lT : upd H2 T (.tup [.int (i : Nat), .ref t]) T = some (.tup [.int (i : Nat), .ref t]) := upd_same
    generalize upd H2 T (.tup [.int (i : Nat), .ref t]) = H4 at sT lT ⊢
    have s4 := s2.trans sT
    refine ⟨T, _, rfl, SqT.of lT, rfl, _, _, rfl, _, _, rfl, t, _, rfl, s4.sqT ht, rfl, _, _, rfl, _, _, rfl, _, _, rfl, rfl, rfl, ?_⟩
    refine ⟨(i : Int) + 1, rfl, S, xs, rfl, s4.sqT hS, fun S2 H5 s5 hS2 => ?_⟩
    have ecut : cutV xs (some ((i : Int) + 1)) none = xs.drop (i + 1) := cut_fromV xs (i + 1)
    rw [ecut] at hS2
    have s25 := sT.trans s5
    have s45 := s4.trans s5
    have hF5 := s25 _ _ hF2
    refine ⟨S2, rfl, ⟨_, hS2⟩, ?_⟩
    refine for_it (walk_tup (xs := xs.drop (i + 1))) (fun j σ H' => ∃ (ac' : List V) (o9 o10 o11 o15 : Option V), σ = [some v0, some (.int n), some (.ref S), some (.ref F), some (.ref Ed), some (.str r.1), some (.ref p1), some (.ref q1), some (.int (i : Nat)), o9, o10, o11, o12, o13, o14, o15, o16, o17, o18] ∧ Same Hb H' ∧ H' F = some (.lst ac') ∧ H' Ed = some (.lst ed) ∧
        RowsAt H' ac' (pre ++ (List.range i).flatMap (choicesAt rows) ++ (((rows.drop (i + 1)).take j).filter (chB r)).map fun q => dChoice r.1 q.1) ∧ RowsAt H' ed er ∧ ac'.length ≤ ac.length + j ∧ SqT K H' S2 (xs.drop (i + 1)))
      ⟨ac, _, _, _, _, rfl, s45, hF5, s25 _ _ hE2, by simpa using hac.same s25, hed.same s25, by omega, hS2⟩ (fun j σ H' _ ⟨_, _, _, _, _, _, _, _, _, _, _, _, h⟩ => h) ?_ ?_
    · rintro j y σ H6 H7 hj ⟨ac', p9', p10', p11', p15', rfl, s6, hF6, hE6, hac6, hed6, hal6, hS6⟩ ⟨rfl, hyy⟩
      rw [List.getElem?_drop] at hyy
      obtain ⟨d2, hd2, hdq2⟩ := hx.get hyy
      obtain ⟨r2, hr2, rfl⟩ := row_of_map hd2
      obtain ⟨t2, p2, q2, rfl, ht2, hp2, hq2⟩ := row_at hdq2
      have hrow2 : (rows.drop (i + 1))[j]? = some r2 := by rw [List.getElem?_drop]; exact hr2
      refine ⟨t2, _, rfl, s6.sqT ht2, rfl, _, _, rfl, _, _, rfl, _, _, rfl, rfl, ?_⟩
      refine ⟨tupI r.2.1, tupI r2.2.1, .tup (s6.sqT hp1) (dp_ints _), .tup (s6.sqT hp2) (dp_ints _), shaped_ints _, shaped_ints _, ?_⟩
      rw [eqv_tupI]
      have no : ∀ H8 : Hp, Same H7 H8 → chB r r2 = false → ∃ (ac' : List V) (o9 o10 o11 o15 : Option V), [some v0, some (.int n), some (.ref S), some (.ref F), some (.ref Ed), some (.str r.1), some (.ref p1), some (.ref q1), some (.int (i : Nat)), some (.str r2.1), some (.ref p2), some (.ref q2), o12, o13, o14, p15', o16, o17, o18] = [some v0, some (.int n), some (.ref S), some (.ref F), some (.ref Ed), some (.str r.1), some (.ref p1), some (.ref q1), some (.int (i : Nat)), o9, o10, o11, o12, o13, o14, o15, o16, o17, o18] ∧ Same Hb H8 ∧ H8 F = some (.lst ac') ∧ H8 Ed = some (.lst ed) ∧
        RowsAt H8 ac' (pre ++ (List.range i).flatMap (choicesAt rows) ++ (((rows.drop (i + 1)).take (j + 1)).filter (chB r)).map fun q => dChoice r.1 q.1) ∧ RowsAt H8 ed er ∧ ac'.length ≤ ac.length + (j + 1) ∧ SqT K H8 S2 (xs.drop (i + 1)) := fun H8 s8 c => ⟨ac', _, _, _, _, rfl, s6.trans s8, s8 _ _ hF6, s8 _ _ hE6, by rw [take_filter hrow2, if_neg (by rw [c]; decide), List.append_nil]; exact hac6.same s8, hed6.same s8, by omega, s8.sqT hS6⟩
      refine ite2 (fun c => ?_) (fun c => ?_)
      · have ne : (!decide (r.2.1 = r2.2.1)) = true := c
        refine ⟨p1, rfl, ⟨_, s6.sqT hp1⟩, fun D hD => ?_⟩
        refine lc_it (walk_tup (xs := r.2.1.map V.int)) (fun t H' => H' D = some (.lst ((((r.2.1.take t).filter fun k => decide (k ∈ r2.2.1)).map fun _ => (1 : Int)).map V.int)) ∧ ∀ b o, H7 b = some o → H' b = some o)
          ⟨upd_same, fun b o e => by rw [upd_ne (ne_of_none e hD)]; exact e⟩ (fun t H' _ ⟨_, kp⟩ => Same.sqT (s6.trans fun b o e => kp b o e) hp1) ?_ ?_
        · rintro t z H8 H9 ht ⟨hD8, kp⟩ ⟨rfl, hz⟩
          rw [List.getElem?_map] at hz
          cases c2 : r.2.1[t]? with
          | none => rw [c2] at hz; cases hz
          | some z' =>
            rw [c2] at hz
            cases hz
            rw [List.length_map] at ht
            have s9 : Same Hb H9 := s6.trans fun b o e => kp b o e
            refine ⟨rfl, p2, _, rfl, .inr (s9.sqT hp2), rfl, flat_ints _, ?_⟩
            rw [if_neg (c := (false : Bool) = true) (by decide), inV_int]
            refine ite2 (fun c3 => ?_) (fun c3 => ?_)
            · refine ⟨_, hD8, ?_, ?_, fun b o e => ?_⟩
              · rw [List.length_map, List.length_map, sizeLine_eq]
                have := List.length_filter_le (fun k => decide (k ∈ r2.2.1)) (r.2.1.take t)
                rw [List.length_take] at this
                omega
              · rw [upd_same, take_filter c2, if_pos c3, List.map_append, List.map_append]
                rfl
              · rw [upd_ne (ne_of_none e hD)]
                exact kp b o e
            · refine ⟨?_, kp⟩
              rw [take_filter c2, if_neg c3, List.append_nil]
              exact hD8
        · rintro H8 ⟨hD8, kp⟩
          rw [List.length_map, List.take_length] at hD8
          refine ⟨by simp, fun p9 H9 s9 n9 l9 => ?_⟩
          have s79 : Same H7 H9 := Same.trans (fun b o e => kp b o e) s9
          refine ⟨.list ((((r.2.1.filter fun k => decide (k ∈ r2.2.1)).map fun _ => (1 : Int))).map .int), .list [], .lst (SqL.of (s9 _ _ hD8)) (dp_ints _), .lst (SqL.of l9) .nil, ints_shaped _, by decide +kernel, ?_⟩
          rw [eqv_nil, ones_any]
          refine ite2 (fun c2 => ?_) (fun c2 => ?_)
          · have yes : chB r r2 = true := by
              unfold chB
              rw [ne, Bool.true_and]
              exact c2
            have hF9 := s79 _ _ hF6
            refine ⟨F, ac', rfl, hF9, by simp, fun q4 Ha sa na la => ?_⟩
            have hFa := sa _ _ hF9
            have s7a := s79.trans sa
            have hjl : j < 40 := by rw [List.length_drop] at hj; omega
            refine ⟨ac', hFa, by omega, ac' ++ [.ref q4], _, _, _, _, rfl, sF (s6.trans s7a), upd_same, ?_, ?_, rows_upd hFa (hed6.same s7a), by simp; omega, ?_⟩
            · rw [upd_ne (Ne.symm hFE)]
              exact s7a _ _ hE6
            · rw [take_filter hrow2, if_pos yes, List.map_append, ← List.append_assoc]
              exact rows_upd hFa (rows_snoc (hac6.same s7a) ⟨q4, rfl, la⟩)
            · refine Same.sqT (H := hide [F] Ha) (fun b o e => ?_) (sqT_hide hFa (s7a.sqT hS6))
              obtain ⟨e1, e2⟩ := hide_of e
              have hb : b ≠ F := fun z => e2 (List.mem_singleton.mpr z)
              rw [upd_ne hb]
              exact e1
          · exact no H9 s79 (by
              unfold chB
              rw [ne, Bool.true_and]
              cases q : r.2.1.any fun k => decide (k ∈ r2.2.1) with
              | false => rfl
              | true => exact absurd q c2)
      · exact no H7 (Same.refl _) (by
          unfold chB
          have c' : (!decide (r.2.1 = r2.2.1)) = false := by
            cases q : (!decide (r.2.1 = r2.2.1)) with
            | false => rfl
            | true => exact absurd q c
          rw [c']
          rfl)
    · rintro σ H6 ⟨ac', p9', p10', p11', p15', rfl, s6, hF6, hE6, hac6, hed6, hal6, hS6⟩
      refine ⟨ac', _, _, _, _, _, _, _, _, rfl, s6, hF6, hE6, ?_, hed6, ?_⟩
      · have e : (List.range (i + 1)).flatMap (choicesAt rows) = (List.range i).flatMap (choicesAt rows) ++ ((rows.drop (i + 1)).filter (chB r)).map fun q => dChoice r.1 q.1 := by
          rw [List.range_succ, List.flatMap_append]
          congr 1
          show choicesAt rows i ++ [] = _
          rw [List.append_nil]
          unfold choicesAt
          rw [hr1]
        rw [e, ← List.append_assoc]
        have hl2 : (xs.drop (i + 1)).length = (rows.drop (i + 1)).length := by rw [List.length_drop, List.length_drop, hxl]
        rw [hl2, List.take_length] at hac6
        exact hac6
      · rw [List.length_drop] at hal6
        omega
  · rintro σ H2 ⟨ac, p5, p6, p7, p8, p9, p10, p11, p15, rfl, s2, hF2, hE2, hac, hed, hal⟩
    rw [hxl] at hac
    exact q ac p5 p6 p7 p8 p9 p10 p11 p15 H2 s2 hF2 hE2 hac hed (by omega)
end
end K02

set_option Elab.async false
set_option linter.all false
set_option maxRecDepth 100000
set_option maxHeartbeats 4000000
namespace K02
open PySem L2 PySem.KX StX
theorem word_ok {x : Str} (h : WordS x) : okK (.inr x) = true := by
  have h1 := low_ok h.low
  rw [← wT_eta x] at h1
  exact h1
theorem edges_ok {n : Int} {rows : List RowN} (hg : GoodN n rows) : ∀ p ∈ edgesL rows, okK p.1 = true ∧ okK p.2 = true := fun p hp => by
  obtain ⟨a, b⟩ := p
  obtain ⟨r, hr, hm⟩ := mem_edgesL.mp hp
  have hw := word_ok (hg.row r hr).w
  rcases mem_edgesR.mp hm with ⟨k, _, e1, e2⟩ | ⟨k, _, e1, e2⟩
  · subst e1; subst e2; exact ⟨rfl, hw⟩
  · subst e1; subst e2; exact ⟨hw, rfl⟩
theorem swap_ok {es : List EdgeK} (h : ∀ p ∈ es, okK p.1 = true ∧ okK p.2 = true) : ∀ p ∈ es.map swapE, okK p.1 = true ∧ okK p.2 = true := fun p hp => by
  obtain ⟨q, hq, rfl⟩ := List.mem_map.mp hp
  exact ⟨(h q hq).2, (h q hq).1⟩
theorem good_names {n : Int} {rows : List RowN} (hg : GoodN n rows) : (rows.map (·.1)).Nodup := rows_names hg.asc
section
variable {P : Program} {w : World} {K : PySem.W.Frag} {mg : Str → Option Value} {base : Heap} {f : Addr} {cdv : Value} {A : Around} {outer : List Env} {s : Shared} {H0 : Hp} {E0' : XK}
/-- ahead and behind -/
theorem ld_search (hr : RoomG 1 (A.deeper (PyProof.Rows.envOfC "_law_defects" (defScope s_law_defects) s.heap.objs.size f cdv))) (O_fw : Own P w K mg base CX0 "_law_forward" 1 ["edges", "begin"] (spFwd K)) {Hb H : Hp} {D : Ends} {v0 : V} {n : Int} {S F Ed : Addr} {ac ed : List V} {rows : List RowN} {pre : List RowK} {o5 o6 o7 o8 o9 o10 o11 o12 o13 o14 o15 o16 o17 o18 : Option V} (hg : GoodN n rows) (hF : H F = some (.lst ac)) (hE : H Ed = some (.lst ed)) (sb : Same Hb H) (hac : RowsAt H ac pre) (hed : RowsAt H ed ((edgesL rows).map edgeR)) (hel : ed.length ≤ 2400)
    (q : ∀ (Aa Bb : Addr) (as bs : List Key) (o9 o16 : Option V) (H' : Hp), Same H H' → H' Aa = some (.lst (as.map kV)) → H' Bb = some (.lst (bs.map kV)) → (∀ k, k ∈ as ↔ BReach (edgesL rows) (.inl 0) k) → (∀ k, k ∈ bs ↔ BReach ((edgesL rows).map swapE) (.inl 1) k) → as.length ≤ 10001 →
      ∃ t, PSs (X_ld P w K mg base f cdv A outer s H0 E0') ((defBody s_law_defects).drop 6) t ∧ t D [some v0, some (.int n), some (.ref S), some (.ref F), some (.ref Ed), o5, o6, o7, o8, o9, o10, o11, some (.ref Aa), some (.ref Bb), o14, o15, o16, o17, o18] H') :
    ∃ t, PSs (X_ld P w K mg base f cdv A outer s H0 E0') ((defBody s_law_defects).drop 4) t ∧ t D [some v0, some (.int n), some (.ref S), some (.ref F), some (.ref Ed), o5, o6, o7, o8, o9, o10, o11, o12, o13, o14, o15, o16, o17, o18] H := by
  have nd := sc_law_defects.nd
  refine ⟨_, (pss_cons (ps_set (i := 12) nd rfl (by first | exact Or.inl rfl | exact Or.inr rfl) (pe_own O_fw hr (pa_cons (av 4) (pa_cons pe_int pa_nil)) (by decide)))
      (pss_cons (ps_set (i := 13) nd rfl (by first | exact Or.inl rfl | exact Or.inr rfl) (pe_own O_fw hr (pa_cons (pe_lc (own := [("one", 16), ("other", 9)]) (by rfl) nd (pi_list (av 4)) (blkOk_by (N := N_ld) (sc := defScope s_law_defects) (by decide +kernel)) (fun _ _ _ _ _ => (show PG _ _ (gTup K 2 (gCons (gName 16) (gCons (gName 9) gNil))) from pg_tup rfl (pgs_cons (pg_name (i := 16) nd rfl (by first | exact Or.inl rfl | exact Or.inr rfl)) (pgs_cons (pg_name (i := 9) nd rfl (by first | exact Or.inl rfl | exact Or.inr rfl)) pgs_nil)))) (fun _ _ _ _ _ => pts_nil) (fun _ _ _ _ _ => (pe_tupS (pa_cons (av 9) (pa_cons (av 16) pa_nil))))) (pa_cons pe_int pa_nil)) (by decide)))
      pss_any)), ?_⟩
  have hel2 := rows_len hed
  rw [List.length_map] at hel2
  refine ⟨Ed, .inl 0, edgesL rows, ed, rfl, SqL.of hE, hed, by omega, edges_ok hg, rfl, fun Aa as H1 s1 n1 l1 hka hla => ?_⟩
  have hE1 := s1 _ _ hE
  refine ⟨Ed, rfl, ⟨_, SqL.of hE1⟩, fun D2 hD2 => ?_⟩
  refine lc_it (walk_list (xs := ed)) (fun t H' => ∃ c3 : List V, H' D2 = some (.lst c3) ∧ RowsAt H' c3 ((((edgesL rows).take t).map swapE).map edgeR) ∧ c3.length ≤ t ∧ ∀ b o, H1 b = some o → H' b = some o)
    ⟨[], upd_same, .nil, by simp, fun b o e => by rw [upd_ne (ne_of_none e hD2)]; exact e⟩ (fun t H' _ ⟨_, _, _, _, kp⟩ => SqL.of (kp _ _ hE1)) ?_ ?_
  · rintro t y H2 H3 ht ⟨c3, hc3, hr3, hl3, kp⟩ ⟨rfl, hy⟩
    obtain ⟨row, hrow, hx2⟩ : ∃ row, ((edgesL rows).map edgeR)[t]? = some row ∧ IsRow H y row := paired_get hed hy
    obtain ⟨e, he, rfl⟩ : ∃ e, (edgesL rows)[t]? = some e ∧ edgeR e = row := by
      rw [List.getElem?_map] at hrow
      cases c : (edgesL rows)[t]? with
      | none => rw [c] at hrow; cases hrow
      | some e => rw [c] at hrow; exact ⟨e, rfl, Option.some.inj hrow⟩
    obtain ⟨u, rfl, hu⟩ := hx2
    have hu3 : H3 u = some (.tup [kV e.1, kV e.2]) := kp _ _ (s1 _ _ hu)
    refine ⟨u, _, rfl, SqT.of hu3, rfl, _, _, rfl, _, _, rfl, rfl, ?_⟩
    refine ⟨rfl, by simp, fun q4 H4 s4 n4 l4 => ?_⟩
    have hc4 := s4 _ _ hc3
    refine ⟨c3, hc4, by rw [sizeLine_eq]; omega, c3 ++ [.ref q4], upd_same, ?_, by simp; omega, fun b o e => ?_⟩
    · rw [List.take_add_one, he, List.map_append, List.map_append]
      exact rows_upd hc4 (rows_snoc (hr3.same s4) ⟨q4, rfl, l4⟩)
    · rw [upd_ne (ne_of_none e hD2)]
      exact s4 _ _ (kp _ _ e)
  · rintro H2 ⟨c3, hc3, hr3, hl3, kp⟩
    rw [hel2, List.take_length] at hr3
    have l2 := kp _ _ l1
    refine ⟨D2, .inl 1, (edgesL rows).map swapE, c3, rfl, SqL.of hc3, hr3, by rw [List.length_map]; omega, swap_ok (edges_ok hg), rfl, fun Bb bs H3 s3 n3 l3 hkb hlb => ?_⟩
    exact q Aa Bb as bs _ _ H3 ((s1.trans fun b o e => kp b o e).trans s3) (s3 _ _ l2) l3 hka hkb hla
end
end K02

set_option Elab.async false
set_option linter.all false
set_option maxRecDepth 100000
set_option maxHeartbeats 4000000
namespace K02
open PySem L2 PySem.KX StX
section
variable {P : Program} {w : World} {K : PySem.W.Frag} {mg : Str → Option Value} {base : Heap} {f : Addr} {cdv : Value} {A : Around} {outer : List Env} {s : Shared} {H0 : Hp} {E0' : XK}
theorem ld_last (hr : RoomG 1 (A.deeper (PyProof.Rows.envOfC "_law_defects" (defScope s_law_defects) s.heap.objs.size f cdv))) (hrange : mg "range" = none) (htup : mg "tuple" = none) (hsorted : mg "sorted" = none)
    {Hb H : Hp} {D : Ends} {v0 : V} {n : Int} {S F Ed Aa Bb : Addr} {xs ac : List V} {as bs : List Key} {rows : List RowN} {pre : List RowK} {o5 o6 o7 o8 o9 o10 o11 o14 o15 o16 o17 o18 : Option V} (hg : GoodN n rows) (hS : SqT K Hb S xs) (hx : DqAll K Hb xs (rows.map rowD)) (sb : Same Hb H)
    (hF : H F = some (.lst ac)) (hF0 : Hb F = none) (hac : RowsAt H ac pre) (hal : ac.length ≤ 2000) (hA : H Aa = some (.lst (as.map kV))) (hB : H Bb = some (.lst (bs.map kV))) (hla : as.length ≤ 10001)
    (ha : ∀ k, k ∈ as ↔ BReach (edgesL rows) (.inl 0) k) (hb : ∀ k, k ∈ bs ↔ BReach ((edgesL rows).map swapE) (.inl 1) k) (hperm : (pre ++ placesL n rows ++ stepsL rows).Perm (allL n rows))
    (q : ∀ (a : Addr) (ys : List V) (H' : Hp), Same Hb H' → Hb a = none → H' a = some (.tup ys) → RowsAt H' ys (defsL n rows) → D.rt (.ref a) H') :
    ∃ t, PSs (X_ld P w K mg base f cdv A outer s H0 E0') ((defBody s_law_defects).drop 6) t ∧ t D [some v0, some (.int n), some (.ref S), some (.ref F), some (.ref Ed), o5, o6, o7, o8, o9, o10, o11, some (.ref Aa), some (.ref Bb), o14, o15, o16, o17, o18] H := by
  have nd := sc_law_defects.nd
  refine ⟨_, (pss_cons (ps_set (i := 14) nd rfl (by first | exact Or.inl rfl | exact Or.inr rfl) (pe_lc (own := [("thing", 17)]) (by rfl) nd (pi_list (av 12)) (blkOk_by (N := N_ld) (sc := defScope s_law_defects) (by decide +kernel)) (fun _ _ _ _ _ => (pg_name (i := 17) nd rfl (by first | exact Or.inl rfl | exact Or.inr rfl))) (fun _ _ _ _ _ => (pts_one (show PT _ _ (aTest (tOp (rIn K false) (aVar 17) (aVar 13))) from pt_cmpA op_in_seq (av 17) (av 13)))) (fun _ _ _ _ _ => (av 17))))
      (pss_cons (ps_expr (pe_bm PySem.F.plainAttrs_list PySem.F.slot_list_extend PySem.F.type_list_extend mt_extend (av 3) (pa_cons (pe_lc (own := [("place", 15)]) (by rfl) nd (pi_range1 (by rfl) hrange (pa_cons (av 1) pa_nil)) (blkOk_by (N := N_ld) (sc := defScope s_law_defects) (by decide +kernel)) (fun _ _ _ _ _ => (pg_name (i := 15) nd rfl (by first | exact Or.inl rfl | exact Or.inr rfl))) (fun _ _ _ _ _ => (pts_one (show PT _ _ (aTest (tOp (rIn K true) (aVar 15) (aVar 14))) from pt_cmpA op_notIn_seq (av 15) (av 14)))) (fun _ _ _ _ _ => (pe_tupS (pa_cons pe_str (pa_cons (av 15) pa_nil))))) pa_nil)))
      (pss_cons (ps_expr (pe_bm PySem.F.plainAttrs_list PySem.F.slot_list_extend PySem.F.type_list_extend mt_extend (av 3) (pa_cons (pe_lc (own := [("step", 18)]) (by rfl) nd (pi_tup (av 2)) (blkOk_by (N := N_ld) (sc := defScope s_law_defects) (by decide +kernel)) (fun _ _ _ _ _ => (pg_name (i := 18) nd rfl (by first | exact Or.inl rfl | exact Or.inr rfl))) (fun _ _ _ _ _ => (pts_one (show PT _ _ (aTest (tOp (rIn K true) (tOp (rIxA K) (aVar 18) (tC (.int 0))) (aVar 14))) from pt_cmpA op_notIn_seq (pe_ixA (av 18) pe_int) (av 14)))) (fun _ _ _ _ _ => (show PE _ _ (tTupS (tCons (tC (.str "step")) (tCons (tOp (rIxA K) (aVar 18) (tC (.int 0))) tNil))) from pe_tupS (pa_cons pe_str (pa_cons (pe_ixA (av 18) pe_int) pa_nil))))) pa_nil)))
      (pss_one (ps_ret (pe_callTy call_tupLS (by rfl) htup (by decide +kernel) (pa_cons (pe_callB (call_sortRow hr.units64) (by rfl) hsorted (by decide +kernel) (pa_cons (av 3) pa_nil)) pa_nil))))))), ?_⟩
  have nodn := good_names hg
  have hxl := hx.length
  rw [List.length_map] at hxl
  have h40 := hg.few
  have h2 := hg.lo
  have h30 := hg.hi
  have sF : ∀ {H' : Hp} {o : HO}, Same Hb H' → Same Hb (upd H' F o) := fun {H' o} s b o e => by rw [upd_ne (ne_of_none e hF0)]; exact s b o e
  -- both
  refine ⟨Aa, rfl, ⟨_, SqL.of hA⟩, fun D1 hD1 => ?_⟩
  refine lc_it (walk_list (xs := as.map kV)) (fun t H' => H' D1 = some (.lst (((as.take t).filter fun t => decide (t ∈ bs)).map kV)) ∧ ∀ b o, H b = some o → H' b = some o)
    ⟨upd_same, fun b o e => by rw [upd_ne (ne_of_none e hD1)]; exact e⟩ (fun t H' _ ⟨_, kp⟩ => SqL.of (kp _ _ hA)) ?_ ?_
  · rintro t y H2 H3 ht ⟨hc, kp⟩ ⟨rfl, hy⟩
    rw [List.getElem?_map] at hy
    cases c2 : as[t]? with
    | none => rw [c2] at hy; cases hy
    | some z =>
      rw [c2] at hy
      cases hy
      rw [List.length_map] at ht
      refine ⟨rfl, Bb, _, rfl, .inl (SqL.of (kp _ _ hB)), flat_key z, flat_keys bs, ?_⟩
      rw [if_neg (c := (false : Bool) = true) (by decide), inV_key]
      refine ite2 (fun c => ?_) (fun c => ?_)
      · refine ⟨_, hc, ?_, ?_, fun b o e => ?_⟩
        · rw [List.length_map, sizeLine_eq]
          have := List.length_filter_le (fun t => decide (t ∈ bs)) (as.take t)
          rw [List.length_take] at this
          omega
        · rw [upd_same, take_filter c2, if_pos c, List.map_append]
          rfl
        · rw [upd_ne (ne_of_none e hD1)]
          exact kp _ _ e
      · refine ⟨?_, kp⟩
        rw [take_filter c2, if_neg c, List.append_nil]
        exact hc
  rintro H2 ⟨hD2, kp2⟩
  rw [List.length_map, List.take_length] at hD2
  have s2 : Same Hb H2 := sb.trans fun b o e => kp2 b o e
  have hF2 := kp2 _ _ hF
  have hac2 : RowsAt H2 ac pre := hac.same fun b o e => kp2 b o e
  have hFD : F ≠ D1 := fun z => by rw [z, hD1] at hF; cases hF
  generalize hboth : (as.filter fun t => decide (t ∈ bs)) = both at hD2
  have hbl : both.length ≤ 10001 := by
    rw [← hboth]
    have := List.length_filter_le (fun t => decide (t ∈ bs)) as
    omega
  have eP : ∀ k : Int, (!decide ((Sum.inl k : Key) ∈ both)) = badP rows k := fun k => by rw [← hboth]; exact badP_is nodn ha hb k
  have eR : ∀ r ∈ rows, (!decide ((Sum.inr r.1 : Key) ∈ both)) = badR rows r := fun r hr => by rw [← hboth]; exact badR_is nodn ha hb hr
  -- places
  refine ⟨.inl ⟨rfl, _, SqL.of hF2⟩, ?_⟩
  refine ⟨n, rfl, by omega, by omega, fun D3 hD3 => ?_⟩
  refine lc_range (lo := 0) (n := n.toNat) (fun t H' => ∃ c3 : List V, H' D3 = some (.lst c3) ∧ RowsAt H' c3 ((((List.range t).map fun i : Nat => (i : Int)).filter (badP rows)).map dPlace) ∧ c3.length ≤ t ∧ ∀ b o, H2 b = some o → H' b = some o)
    ⟨[], upd_same, .nil, by simp, fun b o e => by rw [upd_ne (ne_of_none e hD3)]; exact e⟩ ?_ ?_
  · rintro t H3 ht ⟨c3, hc3, hr3, hl3, kp⟩
    have ez : (0 : Int) + (t : Int) = (t : Int) := by omega
    rw [ez]
    have hrt : List.range (t + 1) = List.range t ++ [t] := List.range_succ
    refine ⟨rfl, D1, _, rfl, .inl (SqL.of (kp _ _ hD2)), rfl, flat_keys both, ?_⟩
    rw [if_pos rfl, show inV (.int (t : Int)) (both.map kV) = decide ((Sum.inl (t : Int) : Key) ∈ both) from inV_key (k := .inl (t : Int)), eP]
    refine ite2 (fun c => ?_) (fun c => ?_)
    · refine ⟨by simp, fun q4 H4 s4 n4 l4 => ?_⟩
      have hc4 := s4 _ _ hc3
      refine ⟨c3, hc4, by rw [sizeLine_eq]; omega, c3 ++ [.ref q4], upd_same, ?_, by simp; omega, fun b o e => ?_⟩
      · rw [hrt, List.map_append, List.filter_append, List.map_append]
        have e1 : ([t].map fun i : Nat => (i : Int)).filter (badP rows) = [(t : Int)] := by rw [List.map_cons, List.map_nil, List.filter_cons, if_pos c]; rfl
        rw [e1]
        exact rows_upd hc4 (rows_snoc (hr3.same s4) ⟨q4, rfl, l4⟩)
      · rw [upd_ne (ne_of_none e hD3)]
        exact s4 _ _ (kp _ _ e)
    · refine ⟨c3, hc3, ?_, by omega, kp⟩
      rw [hrt, List.map_append, List.filter_append, List.map_append]
      have e1 : ([t].map fun i : Nat => (i : Int)).filter (badP rows) = [] := by rw [List.map_cons, List.map_nil, List.filter_cons, if_neg c]; rfl
      rw [e1, List.map_nil, List.append_nil]
      exact hr3
  rintro H3 ⟨c3, hc3, hr3, hl3, kp3⟩
  have hF3 := kp3 _ _ hF2
  have hD13 := kp3 _ _ hD2
  have s3 : Same Hb H3 := s2.trans fun b o e => kp3 b o e
  refine ⟨F, D3, _, c3, rfl, rfl, hF3, hc3, by rw [sizeLine_eq]; omega, ?_⟩
  have hF4 : upd H3 F (.lst (ac ++ c3)) F = some (.lst (ac ++ c3)) := upd_same
  have hD4 : upd H3 F (.lst (ac ++ c3)) D1 = some (.lst (both.map kV)) := by rw [upd_ne (Ne.symm hFD)]; exact hD13
  have s4 : Same Hb (upd H3 F (.lst (ac ++ c3))) := sF s3
  have hac4 : RowsAt (upd H3 F (.lst (ac ++ c3))) (ac ++ c3) (pre ++ placesL n rows) := rows_upd hF3 (rows_app (hac2.same fun b o e => kp3 b o e) hr3)
  generalize upd H3 F (.lst (ac ++ c3)) = H4 at hF4 hD4 s4 hac4 ⊢
  -- steps
  refine ⟨.inl ⟨rfl, _, SqL.of hF4⟩, ?_⟩
  refine ⟨S, rfl, ⟨_, s4.sqT hS⟩, fun D5 hD5 => ?_⟩
  refine lc_it (walk_tup (xs := xs)) (fun t H' => ∃ c5 : List V, H' D5 = some (.lst c5) ∧ RowsAt H' c5 (((rows.take t).filter (badR rows)).map fun r => dStep r.1) ∧ c5.length ≤ t ∧ ∀ b o, H4 b = some o → H' b = some o)
    ⟨[], upd_same, .nil, by simp, fun b o e => by rw [upd_ne (ne_of_none e hD5)]; exact e⟩ (fun t H' _ ⟨_, _, _, _, kp⟩ => Same.sqT (s4.trans fun b o e => kp b o e) hS) ?_ ?_
  · rintro t y H5 H6 ht ⟨c5, hc5, hr5, hl5, kp⟩ ⟨rfl, hy⟩
    obtain ⟨d, hd, hdq⟩ := hx.get hy
    obtain ⟨r, hr1, rfl⟩ := row_of_map hd
    obtain ⟨tt, p1, q1, rfl, htt, hp1, hq1⟩ := row_at hdq
    have s6 : Same Hb H6 := s4.trans fun b o e => kp b o e
    refine ⟨rfl, ?_⟩
    refine .inr ⟨_, .str r.1, s6.sqT htt, rfl, ?_⟩
    refine ⟨D1, _, rfl, .inl (SqL.of (kp _ _ hD4)), rfl, flat_keys both, ?_⟩
    rw [if_pos rfl, show inV (.str r.1) (both.map kV) = decide ((Sum.inr r.1 : Key) ∈ both) from inV_key (k := .inr r.1), eR r (List.mem_of_getElem? hr1)]
    refine ite2 (fun c => ?_) (fun c => ?_)
    · refine .inr ⟨_, .str r.1, s6.sqT htt, rfl, ?_⟩
      refine ⟨by simp, fun q4 H7 s7 n7 l7 => ?_⟩
      have hc7 := s7 _ _ hc5
      refine ⟨c5, hc7, by rw [sizeLine_eq]; omega, c5 ++ [.ref q4], upd_same, ?_, by simp; omega, fun b o e => ?_⟩
      · rw [take_filter hr1, if_pos c, List.map_append]
        exact rows_upd hc7 (rows_snoc (hr5.same s7) ⟨q4, rfl, l7⟩)
      · rw [upd_ne (ne_of_none e hD5)]
        exact s7 _ _ (kp _ _ e)
    · refine ⟨c5, hc5, ?_, by omega, kp⟩
      rw [take_filter hr1, if_neg c, List.append_nil]
      exact hr5
  rintro H5 ⟨c5, hc5, hr5, hl5, kp5⟩
  rw [hxl, List.take_length] at hr5
  have hF5 := kp5 _ _ hF4
  have s5 : Same Hb H5 := s4.trans fun b o e => kp5 b o e
  refine ⟨F, D5, _, c5, rfl, rfl, hF5, hc5, by rw [sizeLine_eq, List.length_append]; omega, ?_⟩
  have hF6 : upd H5 F (.lst (ac ++ c3 ++ c5)) F = some (.lst (ac ++ c3 ++ c5)) := upd_same
  have s6 : Same Hb (upd H5 F (.lst (ac ++ c3 ++ c5))) := sF s5
  have hac6 : RowsAt (upd H5 F (.lst (ac ++ c3 ++ c5))) (ac ++ c3 ++ c5) (pre ++ placesL n rows ++ stepsL rows) := rows_upd hF5 (rows_app (hac4.same fun b o e => kp5 b o e) hr5)
  generalize upd H5 F (.lst (ac ++ c3 ++ c5)) = H6 at hF6 s6 hac6 ⊢
  refine ⟨F, _, _, rfl, SqL.of hF6, hac6, fun r hr q hq => df_cmp (all_df r (hperm.mem_iff.mp hr)) (all_df q (hperm.mem_iff.mp hq)), fun ys p H7 s7 n7 l7 r7 => ?_⟩
  refine ⟨p, _, rfl, SqL.of l7, fun a H8 s8 n8 l8 => ?_⟩
  rw [sortRows_congr hperm] at r7
  exact q a ys H8 ((s6.trans s7).trans s8) ((s6.trans s7).free n8) l8 (r7.same s8)
end
end K02

set_option Elab.async false
set_option linter.all false
set_option maxRecDepth 100000
set_option maxHeartbeats 4000000
namespace K02
open PySem L2 PySem.KX StX
section
variable {P : Program} {w : World} {K : PySem.W.Frag} {mg : Str → Option Value} {base : Heap}
/-- a def of a good net that hands back a new tuple of rows -/
def spLdef (K : PySem.W.Frag) : Sp := fun vs H Q _ => ∃ (v : V) (n : Int) (rows : List RowN), vs = [v] ∧ Dq K H v (netOf n rows) ∧ GoodN n rows ∧
  ∀ a xs H', Same H H' → H a = none → H' a = some (.tup xs) → RowsAt H' xs (defsL n rows) → Q (.ref a) H'
theorem ok_law_defects {f : Addr} {fd : FuncData} (Fu : Fun K "_law_defects" "_law_defects" s_law_defects f fd) (hen : mg "enumerate" = none) (hrange : mg "range" = none) (htup : mg "tuple" = none) (hsorted : mg "sorted" = none) (O_fw : Own P w K mg base CX0 "_law_forward" 1 ["edges", "begin"] (spFwd K)) : FnG P w K mg base CX0 2 f fd ["net"] (spLdef K) := by
  have nd := sc_law_defects.nd
  refine okG Fu sc_law_defects (fun vs H Q E h => ?_) (fun cdv A outer s H vs Q E hr h => ?_)
  · obtain ⟨_, _, _, rfl, _⟩ := h
    rfl
  · obtain ⟨v, n, rows, rfl, hv, hg, k⟩ := h
    refine ⟨_, (pss_cons (ps_asg (av 0) (pg_tup rfl (pgs_cons (pg_name (i := 1) nd rfl (by first | exact Or.inl rfl | exact Or.inr rfl)) (pgs_cons (pg_name (i := 2) nd rfl (by first | exact Or.inl rfl | exact Or.inr rfl)) pgs_nil))))
      (pss_cons (ps_par (i := 3) (j := 4) (by rfl) nd rfl rfl (by decide) rfl rfl (pa_cons (pe_lstS pa_nil) (pa_cons (pe_lstS pa_nil) pa_nil)) (by rfl)) pss_any)), ?_⟩
    obtain ⟨na, S, xs, rfl, hna, hS, hx⟩ := net_at hv
    have hside : ∀ r ∈ rows, r.2.1.length ≤ 30 ∧ r.2.2.length ≤ 30 := fun r hr => ⟨(hg.row r hr).i.few hg.hi, (hg.row r hr).o.few hg.hi⟩
    refine ⟨na, _, rfl, hna, rfl, _, _, rfl, _, _, rfl, rfl, ?_⟩
    refine ⟨by simp, fun F H1 s1 n1 l1 => ?_⟩
    refine ⟨by simp, fun Ed H2 s2 n2 l2 => ?_⟩
    have l1' := s2 _ _ l1
    have hFE : F ≠ Ed := fun z => by rw [← z, l1] at n2; cases n2
    have hE0 : H Ed = none := s1.free n2
    refine ⟨_, _, rfl, ?_⟩
    refine ld_edges hS hx hg.few hside l1' l2 hFE n1 hE0 (s1.trans s2) fun ac ed p5 p6 p7 p15 H3 s3 hF3 hE3 hac3 hed3 hal3 hel3 => ?_
    refine ld_choice hr hen hS hx hg.few hside hF3 hE3 hFE n1 hE0 s3 hac3 hed3 hal3 fun ac4 p5 p6 p7 p8 p9 p10 p11 p15 H4 s4 hF4 hE4 hac4 hed4 hal4 => ?_
    refine ld_search hr O_fw hg hF4 hE4 s4 hac4 hed4 hel3 fun Aa Bb as bs p9 p16 H5 s5 hA hB hka hkb hla => ?_
    refine ld_last hr hrange htup hsorted hg hS hx (s4.trans s5) (s5 _ _ hF4) n1 (hac4.same s5) (by omega) hA hB hla hka hkb ?_ fun a ys H6 s6 n6 l6 r6 => k a ys H6 s6 n6 l6 r6
    unfold allL
    rw [← List.append_assoc (_ ++ choicesL rows)]
    exact (((ones_perm rows).append_right _).append_right _).append_right _
end
end K02

set_option Elab.async false
set_option linter.all false
set_option maxRecDepth 100000
set_option maxHeartbeats 4000000
/-! a, b = a list. -/
namespace L2
open PySem PySem.Spec PyProof.Rows PySem.KX
/-- (a, b, ..) = a list of that length -/
def gUnp (K : PySem.W.Frag) (n : Nat) (t : TGs) : TG := fun v σ H Q => ∃ a xs, v = .ref a ∧ SqL K H a xs ∧ xs.length = n ∧ t xs σ H Q
theorem pg_unp {X : Cx} {pos : Pos} {es : List Expr} {k : Nat} {t : TGs} {n : Nat} (hc : X.calm = true) (h : PGs X es t)
    (hn : (assignEach es X.env).length = n := by rfl) (hst : (assignEach es X.env).findIdx? (·.1) = none := by rfl) : PG X (.Tuple es k pos) (gUnp X.K n t) := by
  refine ⟨fun pins s σ H v u Q I r hw => ?_⟩
  obtain ⟨a, xs, e1, hq, hl, hw⟩ := hw
  subst e1
  cases r
  obtain ⟨its, rv, ht, hz⟩ := I.list hq
  have hsz : its.toArray.size = n := by simp [← hl, rv.length]
  rw [assign_Tuple]
  refine wpAny_bind (wpAny_standAt ?_)
  unfold unpack
  rw [hn, hst, ← hsz]
  refine wpAny_bind (wpAny_holding (PySem.W.kun_itemsOf (I.ok.hd hc) ht.isList fun h' hx => ?_))
  have I1 : Inv X pins σ H { s with heap := h' } := I.kept (t' := s.toks) fun b o e => hx b o (Nat.ne_of_lt (Heap.lt_size e)) e
  exact h.run pins _ σ H xs _ Q I1 (by simpa using rv) hw
end L2

set_option Elab.async false
set_option linter.all false
set_option maxRecDepth 100000
set_option maxHeartbeats 4000000
/-! what grows: lists of lists of places. -/
namespace K02
open PySem L2 PySem.KX StX
variable {K : PySem.W.Frag}
/-- a list of some places below n, at an address of O -/
def LI (O : Addr → Prop) (M : Nat) (n : Int) (H : Hp) (i : Addr) : Prop := O i ∧ ∃ ns : List Int, H i = some (.lst (ns.map V.int)) ∧ ns ≠ [] ∧ ns.length ≤ M ∧ ∀ k ∈ ns, 0 ≤ k ∧ k < n
/-- a step: its inputs, its outputs -/
def StA (O : Addr → Prop) (M : Nat) (n : Int) (H : Hp) (v : V) : Prop := ∃ a i o, v = .ref a ∧ O a ∧ H a = some (.lst [.ref i, .ref o]) ∧ LI O M n H i ∧ LI O M n H o
theorem LI.go {O O' : Addr → Prop} {M M' : Nat} {n n' : Int} {H H' : Hp} {i : Addr} (h : LI O M n H i) (hm : M ≤ M') (hn : n ≤ n') (ho : ∀ b, O b → O' b) (s : ∀ b o, O b → H b = some o → H' b = some o) : LI O' M' n' H' i := by
  obtain ⟨h0, ns, h1, h2, h3, h4⟩ := h
  exact ⟨ho _ h0, ns, s _ _ h0 h1, h2, by omega, fun k hk => ⟨(h4 k hk).1, by have := (h4 k hk).2; omega⟩⟩
theorem StA.go {O O' : Addr → Prop} {M M' : Nat} {n n' : Int} {H H' : Hp} {v : V} (h : StA O M n H v) (hm : M ≤ M') (hn : n ≤ n') (ho : ∀ b, O b → O' b) (s : ∀ b o, O b → H b = some o → H' b = some o) : StA O' M' n' H' v := by
  obtain ⟨a, i, o, e, h0, h1, h2, h3⟩ := h
  exact ⟨a, i, o, e, ho _ h0, s _ _ h0 h1, h2.go hm hn ho s, h3.go hm hn ho s⟩
theorem ints_layA : ∀ ns : List Int, PyData.canLayAll0 (ns.map PyData.int) = true
  | [] => by simp [PyData.canLayAll0]
  | n :: r => by simp [PyData.canLayAll0, PyData.canLay0, ints_layA r]
theorem ints_depthA : ∀ ns : List Int, PyData.depthAll (ns.map PyData.int) = 0
  | [] => by simp [PyData.depthAll]
  | n :: r => by simp [PyData.depthAll, PyData.depth, ints_depthA r]
theorem StA.dp {O : Addr → Prop} {M : Nat} {n : Int} {H : Hp} {v : V} (h : StA O M n H v) : ∃ d, Dp K H v d ∧ PyData.canLay0 d = true ∧ PyData.depth d ≤ 3 := by
  obtain ⟨a, i, o, rfl, _, h1, ⟨_, ns, h2, _⟩, _, ms, h3, _⟩ := h
  refine ⟨.list [.list (ns.map .int), .list (ms.map .int)], .lst (SqL.of h1) (.cons (.lst (SqL.of h2) (dp_ints ns)) (.cons (.lst (SqL.of h3) (dp_ints ms)) .nil)), ?_, ?_⟩
  · simp [PyData.canLay0, PyData.canLayAll0, ints_layA]
  · simp [PyData.depth, PyData.depthAll, ints_depthA]
theorem stas_dp {O : Addr → Prop} {M : Nat} {n : Int} {H : Hp} : ∀ {xs : List V}, (∀ v ∈ xs, StA O M n H v) → ∃ ds, DpAll K H xs ds ∧ ds.length = xs.length ∧ PyData.canLayAll0 ds = true ∧ PyData.depthAll ds ≤ 3
  | [], _ => ⟨[], .nil, rfl, by simp [PyData.canLayAll0], by simp [PyData.depthAll]⟩
  | v :: r, h => by
    obtain ⟨d, h1, h2, h3⟩ := (h v List.mem_cons_self).dp (K := K)
    obtain ⟨ds, k1, k2, k3, k4⟩ := stas_dp fun u hu => h u (List.mem_cons_of_mem _ hu)
    refine ⟨d :: ds, .cons h1 k1, by simp [k2], by simp [PyData.canLayAll0, h2, k3], ?_⟩
    simp only [PyData.depthAll]
    omega
theorem shaped_of {ds : List PyData} (h1 : PyData.canLayAll0 ds = true) (h2 : PyData.depthAll ds ≤ 3) : SeqAt.shaped (.list ds) = true := by
  unfold SeqAt.shaped
  rw [Bool.and_eq_true]
  refine ⟨by simpa [PyData.canLay0] using h1, decide_eq_true ?_⟩
  simp only [PyData.depth]
  omega
/-- places, steps -/
def GrA (p : Addr) (M : Nat) (H : Hp) (G : Addr) (n : Int) (xs : List V) : Prop := ∃ St, G ≠ p ∧ St ≠ p ∧ H G = some (.lst [.int n, .ref St]) ∧ H St = some (.lst xs) ∧ 2 ≤ n ∧ 1 ≤ xs.length ∧ ∀ v ∈ xs, StA (· ≠ p) M n H v
theorem GrA.nx {p : Addr} {M : Nat} {H H' : Hp} {G : Addr} {n : Int} {xs : List V} (h : GrA p M H G n xs) (s : Nxt p H H') : GrA p M H' G n xs := by
  obtain ⟨St, a, b, c, d, e, f, g⟩ := h
  exact ⟨St, a, b, s.get a c, s.get b d, e, f, fun v hv => (g v hv).go (Nat.le_refl _) (Int.le_refl _) (fun _ h => h) fun b o hb e => s.get hb e⟩
abbrev s_law_fitting : Stmt := top 33
theorem sc_law_fitting : FnScope ["grown"] ["grown"] (defScope s_law_fitting) := ⟨rfl, rfl, rfl, by decide +kernel, rfl, by decide +kernel, by decide +kernel⟩
section
variable {P : Program} {w : World} {mg : Str → Option Value} {base : Heap}
def spFit : Sp := fun vs H Q _ => ∃ (p G : Addr) (M : Nat) (n : Int) (xs : List V), vs = [.ref G] ∧ GrA p M H G n xs ∧ Q (.bl (decide (n < 31 ∧ xs.length < 41))) H
theorem ok_law_fitting {f : Addr} {fd : FuncData} (F : Fun K "_law_fitting" "_law_fitting" s_law_fitting f fd) (hlen : mg "len" = none) : FnG P w K mg base CX0 1 f fd ["grown"] spFit := by
  refine okG F sc_law_fitting (fun vs H Q E h => ?_) (fun cdv A outer s H vs Q E hr h => ?_)
  · obtain ⟨_, _, _, _, _, rfl, _⟩ := h
    rfl
  · obtain ⟨p, G, M, n, xs, rfl, ⟨St, _, _, hG, hS, h2, h1, hv⟩, k⟩ := h
    refine ⟨_, (pss_one (ps_ret (pe_and (pe_cmpA op_ltA (pe_ixA (av 0) pe_int) pe_int) (pe_one (pe_cmpA op_ltA (pe_callB call_lenA (by rfl) hlen PySem.boot_len (pa_cons (pe_ixA (av 0) pe_int) pa_nil)) pe_int))))), ?_⟩
    refine .inl ⟨_, .int n, SqL.of hG, rfl, ?_⟩
    refine ⟨_, rfl, ?_⟩
    refine ite2 (fun c => ?_) (fun c => ?_)
    · have c' : n < 31 := of_decide_eq_true c
      refine .inl ⟨_, .ref St, SqL.of hG, rfl, ?_⟩
      refine .inl ⟨_, SqL.of hS, ?_⟩
      have e : decide ((xs.length : Int) < 41) = decide (n < 31 ∧ xs.length < 41) := by
        by_cases q : xs.length < 41
        · rw [decide_eq_true (show (xs.length : Int) < 41 by omega), decide_eq_true ⟨c', q⟩]
        · rw [decide_eq_false (show ¬ (xs.length : Int) < 41 by omega), decide_eq_false fun z => q z.2]
      rw [← e] at k
      exact k
    · have c' : ¬ n < 31 := fun z => c (decide_eq_true z)
      rw [decide_eq_false fun z => c' z.1] at k
      exact k
end
end K02

set_option Elab.async false
set_option linter.all false
set_option maxRecDepth 100000
set_option maxHeartbeats 4000000
namespace K02
open PySem L2 PySem.KX StX
abbrev s_law_grown : Stmt := top 30
abbrev N_gr : List Str := ["dice", "turns", "total", "steps", "turn", "at", "way", "ins", "outs", "some", "loop", "other", "step", "place"]
theorem sc_law_grown : FnScope N_gr ["dice", "turns"] (defScope s_law_grown) := ⟨rfl, rfl, rfl, by decide +kernel, rfl, by decide +kernel, by decide +kernel⟩
/-- the scope of the outer comprehension -/
abbrev scSome : Scope := { kind := ScopeKind.function, names := [(".0", NameKind.local), ("step", NameKind.local), ("outs", NameKind.cell)], isGenerator := false, isCoroutine := false }
/-- all but the list of steps and the dice stays -/
def Kp (St p : Addr) (H H' : Hp) : Prop := ∀ b o, b ≠ St ∧ b ≠ p → H b = some o → H' b = some o
theorem Kp.refl {St p : Addr} {H : Hp} : Kp St p H H := fun _ _ _ e => e
theorem Kp.trans {St p : Addr} {H H' H2 : Hp} (a : Kp St p H H') (b : Kp St p H' H2) : Kp St p H H2 := fun c o hc e => b c o hc (a c o hc e)
theorem Kp.of {St p : Addr} {H H' : Hp} (s : Same H H') : Kp St p H H' := fun b o _ e => s b o e
theorem Kp.dice {St p : Addr} {H H' : Hp} (e : ∀ b, b ≠ p → H' b = H b) : Kp St p H H' := fun b o hb h => (e b hb.2).trans h
theorem Kp.upd {St p : Addr} {H : Hp} {o : HO} : Kp St p H (L2.upd H St o) := fun b u hb h => by rw [upd_ne hb.1]; exact h
abbrev StB (St p : Addr) (M : Nat) (n : Int) (H : Hp) (v : V) : Prop := StA (fun b => b ≠ St ∧ b ≠ p) M n H v
theorem StA.kp {St p : Addr} {M M' : Nat} {n n' : Int} {H H' : Hp} {v : V} (h : StB St p M n H v) (hm : M ≤ M') (hn : n ≤ n') (k : Kp St p H H') : StB St p M' n' H' v := h.go hm hn (fun _ h => h) k
/-- all of them are steps -/
def AllB (St p : Addr) (M : Nat) (n : Int) (H : Hp) (xs : List V) : Prop := ∀ v ∈ xs, StB St p M n H v
theorem AllB.kp {St p : Addr} {M M' : Nat} {n n' : Int} {H H' : Hp} {xs : List V} (h : AllB St p M n H xs) (hm : M ≤ M') (hn : n ≤ n') (k : Kp St p H H') : AllB St p M' n' H' xs := fun v hv => (h v hv).kp hm hn k
theorem AllB.snoc {St p : Addr} {M : Nat} {n : Int} {H : Hp} {xs : List V} {v : V} (h : AllB St p M n H xs) (k : StB St p M n H v) : AllB St p M n H (xs ++ [v]) := fun u hu => by
  rcases List.mem_append.mp hu with z | z
  · exact h u z
  · rw [List.mem_singleton.mp z]; exact k
theorem AllB.set {St p : Addr} {M : Nat} {n : Int} {H : Hp} {xs : List V} {v : V} {j : Nat} (h : AllB St p M n H xs) (k : StB St p M n H v) : AllB St p M n H (xs.set j v) := fun u hu => by
  rcases List.mem_or_eq_of_mem_set hu with z | z
  · exact h u z
  · rw [z]; exact k
theorem ixN_at {n j : Nat} (hj : j < n) : ixN n (j : Int) = some j := by
  unfold ixN
  rw [if_pos (by omega), if_pos (by omega)]
  simp
/-- where we are -/
structure Cur (St p : Addr) (m : Int) (H0 H7 H : Hp) (xs : List V) : Prop where
  S : H St = some (.lst xs)
  d : Dc p m H
  nx : Nxt p H0 H
  k : Kp St p H7 H
  f : H0 St = none
  ne : St ≠ p
theorem Cur.same {St p : Addr} {m : Int} {H0 H7 H H' : Hp} {xs : List V} (c : Cur St p m H0 H7 H xs) (s : Same H H') : Cur St p m H0 H7 H' xs := ⟨s _ _ c.S, c.d.same s, c.nx.trans (Nxt.of s), c.k.trans (Kp.of s), c.f, c.ne⟩
theorem Cur.put {St p : Addr} {m : Int} {H0 H7 H : Hp} {xs ys : List V} (c : Cur St p m H0 H7 H xs) : Cur St p m H0 H7 (L2.upd H St (.lst ys)) ys := ⟨upd_same, c.d.upd c.ne, c.nx.put c.f, c.k.trans Kp.upd, c.f, c.ne⟩
theorem Cur.dice {St p : Addr} {m m' : Int} {H0 H7 H H' : Hp} {xs : List V} (c : Cur St p m H0 H7 H xs) (e : ∀ b, b ≠ p → H' b = H b) (d : Dc p m' H') : Cur St p m' H0 H7 H' xs := ⟨(e _ c.ne).trans c.S, d, c.nx.trans (Nxt.of_eq e), c.k.trans (Kp.dice e), c.f, c.ne⟩
theorem Cur.off {St p : Addr} {m : Int} {H0 H7 H : Hp} {xs : List V} (c : Cur St p m H0 H7 H xs) {b : Addr} (e : H b = none) : b ≠ St ∧ b ≠ p := ⟨fun z => (by rw [z, c.S] at e; cases e), c.d.ne e⟩
theorem li_one {O : Addr → Prop} {M : Nat} {n k : Int} {H : Hp} {b : Addr} (h0 : O b) (e : H b = some (.lst [.int k])) (hm : 1 ≤ M) (h1 : 0 ≤ k) (h2 : k < n) : LI O M n H b := ⟨h0, [k], e, by simp, by simpa using hm, fun j hj => by rw [List.mem_singleton.mp hj]; exact ⟨h1, h2⟩⟩
theorem li_two {O : Addr → Prop} {M : Nat} {n k l : Int} {H : Hp} {b : Addr} (h0 : O b) (e : H b = some (.lst [.int k, .int l])) (hm : 2 ≤ M) (h1 : 0 ≤ k ∧ k < n) (h2 : 0 ≤ l ∧ l < n) : LI O M n H b := ⟨h0, [k, l], e, by simp, by simpa using hm, fun j hj => by
  rcases List.mem_cons.mp hj with rfl | z
  · exact h1
  · rw [List.mem_singleton.mp z]; exact h2⟩
abbrev LIB (St p : Addr) := LI (fun b => b ≠ St ∧ b ≠ p)
theorem LI.kp {St p : Addr} {M M' : Nat} {n n' : Int} {H H' : Hp} {b : Addr} (h : LIB St p M n H b) (hm : M ≤ M') (hn : n ≤ n') (k : Kp St p H H') : LIB St p M' n' H' b := h.go hm hn (fun _ h => h) k
section
variable {P : Program} {w : World} {K : PySem.W.Frag} {mg : Str → Option Value} {base : Heap}
def GS (p : Addr) (m : Int) (H0 : Hp) (St : Addr) (turns : Int) (i : Nat) (σ : L2.St) (H' : Hp) : Prop := ∃ (n : Int) (xs : List V) (o4 o5 o6 o7 o8 o9 o10 o11 o12 o13 : Option V), σ = [some (.ref p), some (.int turns), some (.int n), some (.ref St), o4, o5, o6, o7, o8, o9, o10, o11, o12, o13] ∧ H' St = some (.lst xs) ∧ Nxt p H0 H' ∧ Dc p (m + 4 * i) H' ∧ 2 ≤ n ∧ n ≤ 2 + 4 * i ∧ 1 ≤ xs.length ∧ xs.length ≤ 1 + 3 * i ∧ ∀ v ∈ xs, StB St p (2 ^ i) n H' v
theorem GS.mk {p : Addr} {m m' : Int} {H0 H7 Hx : Hp} {St : Addr} {turns : Int} {i : Nat} {n : Int} {ys : List V} {o4 o5 o6 o7 o8 o9 o10 o11 o12 o13 : Option V} (c : Cur St p m' H0 H7 Hx ys) (hd : m' ≤ m + 4 * (i + 1)) (h1 : 2 ≤ n) (h2 : n ≤ 2 + 4 * (i + 1)) (h3 : 1 ≤ ys.length) (h4 : ys.length ≤ 1 + 3 * (i + 1)) (h : AllB St p (2 ^ (i + 1)) n Hx ys) :
    GS p m H0 St turns (i + 1) [some (.ref p), some (.int turns), some (.int n), some (.ref St), o4, o5, o6, o7, o8, o9, o10, o11, o12, o13] Hx := ⟨n, ys, _, _, _, _, _, _, _, _, _, _, rfl, c.S, c.nx, c.d.mono (by omega), h1, by omega, h3, by omega, h⟩
theorem LI.copy {St p : Addr} {M : Nat} {n : Int} {H : Hp} {b : Addr} (h : LIB St p M n H b) : ∃ ns : List Int, H b = some (.lst (ns.map V.int)) ∧ ns ≠ [] ∧ ns.length ≤ M ∧ (∀ k ∈ ns, 0 ≤ k ∧ k < n) ∧ ∀ (H' : Hp) (c : Addr), c ≠ St ∧ c ≠ p → H' c = some (.lst (ns.map V.int)) → LIB St p M n H' c := by
  obtain ⟨h0, ns, h1, h2, h3, h4⟩ := h
  exact ⟨ns, h1, h2, h3, h4, fun H' c hc e => ⟨hc, ns, e, h2, h3, h4⟩⟩
def spGrown : Sp := fun vs H Q _ => ∃ (p : Addr) (m : Int) (t : Nat), vs = [.ref p, .int t] ∧ Dc p m H ∧ m + 1000 < 2 ^ 30 ∧ t ≤ 8 ∧
  ∀ (G : Addr) (n : Int) (xs : List V) (H' : Hp), Nxt p H H' → Dc p (m + 40) H' → GrA p 256 H' G n xs → n ≤ 34 → xs.length ≤ 25 → Q (.ref G) H'
theorem ok_law_grown {f : Addr} {fd : FuncData} (Fu : Fun K "_law_grown" "_law_grown" s_law_grown f fd) (TX : TxtX mg) (O_law_roll : Own P w K mg base CX0 "_law_roll" 1 ["dice", "total"] spRollD) (O_law_one_of : Own P w K mg base CX0 "_law_one_of" 2 ["dice", "items"] spOneD) : FnG P w K mg base CX0 3 f fd ["dice", "turns"] spGrown := by
  have nd := sc_law_grown.nd
  refine okG Fu sc_law_grown (fun vs H Q E h => ?_) (fun cdv A outer s H vs Q E hr h => ?_)
  · obtain ⟨_, _, _, rfl, _⟩ := h
    rfl
  · obtain ⟨p, m, turns, rfl, hp, hm, ht, k⟩ := h
    refine ⟨_, (pss_cons (ps_par (i := 2) (j := 3) (by rfl) nd rfl rfl (by decide) rfl rfl (pa_cons pe_int (pa_cons (pe_lstS (pa_cons (pe_lstS (pa_cons (pe_lstS (pa_cons pe_int pa_nil)) (pa_cons (pe_lstS (pa_cons pe_int pa_nil)) pa_nil))) pa_nil)) pa_nil)) (by rfl))
      (pss_cons (ps_for PassesOwn.never rfl (pi_range1 (by rfl) TX.range (pa_cons (av 1) pa_nil)) (pg_name (i := 4) nd rfl (by first | exact Or.inl rfl | exact Or.inr rfl)) (pss_cons (ps_par (i := 5) (j := 6) (by rfl) nd rfl rfl (by decide) rfl rfl (pa_cons (pe_own O_law_roll hr (pa_cons (av 0) (pa_cons (pe_callB call_lenA (by rfl) TX.len PySem.boot_len (pa_cons (av 3) pa_nil)) pa_nil)) (by decide)) (pa_cons (pe_own O_law_roll hr (pa_cons (av 0) (pa_cons pe_int pa_nil)) (by decide)) pa_nil)) (by rfl))
      (pss_cons (ps_asg (pe_ixA (av 3) (av 5)) (pg_unp rfl (pgs_cons (pg_name (i := 7) nd rfl (by first | exact Or.inl rfl | exact Or.inr rfl)) (pgs_cons (pg_name (i := 8) nd rfl (by first | exact Or.inl rfl | exact Or.inr rfl)) pgs_nil))))
      (pss_one (ps_if (pt_cmpA op_ltA (av 6) pe_int) (pss_cons (ps_asg (pe_lstS (pa_cons (av 7) (pa_cons (pe_lstS (pa_cons (av 2) pa_nil)) pa_nil))) (pg_sub (av 3) (av 5) set_list))
      (pss_cons (ps_expr (pe_appS (av 3) (pe_lstS (pa_cons (pe_lstS (pa_cons (av 2) pa_nil)) (pa_cons (av 8) pa_nil)))))
      (pss_one (ps_set (i := 2) nd rfl (by first | exact Or.inl rfl | exact Or.inr rfl) (pe_op op_addA (av 2) pe_int))))) (pss_one (ps_if (pt_cmpA (op_eqA hr.units64) (av 6) pe_int) (pss_one (ps_expr (pe_appS (av 3) (pe_lstS (pa_cons (pe_callTy call_lstS (by rfl) TX.list (by decide +kernel) (pa_cons (av 7) pa_nil)) (pa_cons (pe_callTy call_lstS (by rfl) TX.list (by decide +kernel) (pa_cons (av 8) pa_nil)) pa_nil)))))) (pss_one (ps_if (pt_cmpA (op_eqA hr.units64) (av 6) pe_int) (pss_cons (ps_asg (pe_lstS (pa_cons (av 7) (pa_cons (pe_lstS (pa_cons (av 2) (pa_cons (pe_op op_addA (av 2) pe_int) pa_nil))) pa_nil))) (pg_sub (av 3) (av 5) set_list))
      (pss_cons (ps_expr (pe_appS (av 3) (pe_lstS (pa_cons (pe_lstS (pa_cons (pe_op op_addA (av 2) pe_int) (pa_cons (pe_op op_addA (av 2) pe_int) pa_nil))) (pa_cons (av 8) pa_nil)))))
      (pss_cons (ps_expr (pe_appS (av 3) (pe_lstS (pa_cons (pe_lstS (pa_cons (av 2) pa_nil)) (pa_cons (pe_lstS (pa_cons (pe_op op_addA (av 2) pe_int) pa_nil)) pa_nil)))))
      (pss_cons (ps_expr (pe_appS (av 3) (pe_lstS (pa_cons (pe_lstS (pa_cons (pe_op op_addA (av 2) pe_int) pa_nil)) (pa_cons (pe_lstS (pa_cons (pe_op op_addA (av 2) pe_int) pa_nil)) pa_nil)))))
      (pss_one (ps_set (i := 2) nd rfl (by first | exact Or.inl rfl | exact Or.inr rfl) (pe_op op_addA (av 2) pe_int))))))) (pss_one (ps_if (pt_cmpA (op_eqA hr.units64) (av 6) pe_int) (pss_cons (ps_setLc (i := 9) (own := [("step", 12)]) (by rfl) nd rfl rfl (sw_true rfl rfl rfl (by decide +kernel)) (pi_list (av 3)) (blkOk_by (N := N_gr) (sc := defScope s_law_grown) (by decide +kernel)) (fun _ _ _ _ _ => (pg_name (i := 12) nd rfl (by first | exact Or.inl rfl | exact Or.inr rfl))) (fun _ _ _ _ _ => (pts_one (show PT _ _ (aTest (tOp (rIn K true) (tC (.int 0)) (tOp (rIxA K) (aVar 12) (tC (.int 0))))) from pt_cmpA op_notIn_seq pe_int (pe_ixA (av 12) pe_int)))) (fun _ _ _ _ _ => (av 12)))
      (pss_one (ps_if (pt_cmpA (op_neA hr.units64) (av 9) (pe_lstS pa_nil)) (pss_cons (ps_set (i := 10) nd rfl (by first | exact Or.inl rfl | exact Or.inr rfl) (pe_ixA (pe_own O_law_one_of hr (pa_cons (av 0) (pa_cons (av 9) pa_nil)) (by decide)) pe_int))
      (pss_one (ps_if (pt_cmpA (op_eqA hr.units64) (pe_own O_law_roll hr (pa_cons (av 0) (pa_cons pe_int pa_nil)) (by decide)) pe_int) (pss_one (ps_expr (pe_appS (av 3) (pe_lstS (pa_cons (pe_callTy call_lstS (by rfl) TX.list (by decide +kernel) (pa_cons (av 10) pa_nil)) (pa_cons (pe_callTy call_lstS (by rfl) TX.list (by decide +kernel) (pa_cons (av 10) pa_nil)) pa_nil)))))) (pss_cons (ps_expr (pe_appS (av 3) (pe_lstS (pa_cons (pe_callTy call_lstS (by rfl) TX.list (by decide +kernel) (pa_cons (av 10) pa_nil)) (pa_cons (pe_lstS (pa_cons (av 2) pa_nil)) pa_nil)))))
      (pss_cons (ps_expr (pe_appS (av 3) (pe_lstS (pa_cons (pe_lstS (pa_cons (av 2) pa_nil)) (pa_cons (pe_callTy call_lstS (by rfl) TX.list (by decide +kernel) (pa_cons (av 10) pa_nil)) pa_nil)))))
      (pss_one (ps_set (i := 2) nd rfl (by first | exact Or.inl rfl | exact Or.inr rfl) (pe_op op_addA (av 2) pe_int)))))))) pss_nil))) (pss_cons (ps_setLc (i := 9) (own := [("step", 12)]) (by rfl) nd rfl rfl (sw_true rfl rfl rfl (by decide +kernel)) (pi_list (av 3)) (blkOk_by (N := N_gr) (sc := defScope s_law_grown) (by decide +kernel)) (fun _ _ _ _ _ => (pg_name (i := 12) nd rfl (by first | exact Or.inl rfl | exact Or.inr rfl))) (fun _ _ _ _ _ => (pts_one (show PT _ _ (aTest (tOp (rEqA K) _ (tLstS tNil))) from pt_cmpA (op_eqA hr.units64) (pe_lc (own := [("place", 13)]) (by rfl) nd (show PI _ _ _ (iList K (tOp (rIxA K) (aVar 12) (tC (.int 0)))) from pi_list (pe_ixA (av 12) pe_int)) (blkOk_by (N := N_gr) (sc := scSome) (by decide +kernel)) (fun _ _ _ _ _ => (pg_name (i := 13) nd rfl (by first | exact Or.inl rfl | exact Or.inr rfl))) (fun _ _ _ _ _ => (pts_one (show PT _ _ (aTest (tOp (rIn K true) (aVar 13) (aVar 8))) from pt_cmpA op_notIn_seq (av 13) (av 8)))) (fun _ _ _ _ _ => pe_int)) (pe_lstS pa_nil)))) (fun _ _ _ _ _ => (av 12)))
      (pss_one (ps_if (pt_cmpA (op_neA hr.units64) (av 9) (pe_lstS pa_nil)) (pss_cons (ps_set (i := 11) nd rfl (by first | exact Or.inl rfl | exact Or.inr rfl) (pe_own O_law_one_of hr (pa_cons (av 0) (pa_cons (av 9) pa_nil)) (by decide)))
      (pss_one (ps_expr (pe_appS (av 3) (pe_lstS (pa_cons (pe_callTy call_lstS (by rfl) TX.list (by decide +kernel) (pa_cons (av 7) pa_nil)) (pa_cons (pe_op op_addS (pe_lc (own := [("place", 13)]) (by rfl) nd (pi_list (av 8)) (blkOk_by (N := N_gr) (sc := defScope s_law_grown) (by decide +kernel)) (fun _ _ _ _ _ => (pg_name (i := 13) nd rfl (by first | exact Or.inl rfl | exact Or.inr rfl))) (fun _ _ _ _ _ => (pts_one (show PT _ _ (aTest (tOp (rIn K true) (aVar 13) (tOp (rIxA K) (aVar 11) (tC (.int 0))))) from pt_cmpA op_notIn_seq (av 13) (pe_ixA (av 11) pe_int)))) (fun _ _ _ _ _ => (av 13))) (pe_callTy call_lstS (by rfl) TX.list (by decide +kernel) (pa_cons (pe_ixA (av 11) pe_int) pa_nil))) pa_nil))))))) pss_nil))))))))))))))
      (pss_one (ps_ret (pe_lstS (pa_cons (av 2) (pa_cons (av 3) pa_nil))))))), ?_⟩
    refine ⟨by simp, fun i0 H1 s1 n1 l1 => ?_⟩
    refine ⟨by simp, fun o0 H2 s2 n2 l2 => ?_⟩
    refine ⟨by simp, fun a0 H3 s3 n3 l3 => ?_⟩
    refine ⟨by simp, fun St H4 s4 n4 l4 => ?_⟩
    have hSp : St ≠ p := (hp.same ((s1.trans s2).trans s3)).ne n4
    have hi0p : i0 ≠ p := hp.ne n1
    have ho0p : o0 ≠ p := (hp.same s1).ne n2
    have ha0p : a0 ≠ p := (hp.same (s1.trans s2)).ne n3
    have ne0 : ∀ {b : Addr} {o : HO}, H3 b = some o → b ≠ St := fun {b o} e z => by rw [z, n4] at e; cases e
    have hfr : H St = none := ((s1.trans s2).trans s3).free n4
    have s14 := ((s1.trans s2).trans s3).trans s4
    refine ⟨_, _, rfl, ?_⟩
    refine ⟨_, rfl, by omega, by omega, for_range (lo := 0) (n := ((turns : Nat) : Int).toNat) (GS p m H St turns)
      ⟨2, _, _, _, _, _, _, _, _, _, _, _, rfl, l4, Nxt.of s14, (hp.same s14).mono (by omega), by omega, by omega, by simp, by simp, fun v hv => ?_⟩ ?_ ?_⟩
    · rw [List.mem_singleton.mp hv]
      exact ⟨a0, i0, o0, rfl, ⟨ne0 l3, ha0p⟩, s4 _ _ l3, ⟨⟨ne0 (s3 _ _ (s2 _ _ l1)), hi0p⟩, [0], s4 _ _ (s3 _ _ (s2 _ _ l1)), by simp, by simp, fun k hk => by rw [List.mem_singleton.mp hk]; omega⟩,
        ⟨ne0 (s3 _ _ l2), ho0p⟩, [1], s4 _ _ (s3 _ _ l2), by simp, by simp, fun k hk => by rw [List.mem_singleton.mp hk]; omega⟩
    · rintro i σ H5 hi ⟨n, xs, o4, o5, o6, o7, o8, o9, o10, o11, o12, o13, rfl, hS, nx, dc, hn2, hn, hl1, hl, hv⟩
      have hit : i < 8 := by omega
      -- at, way
      refine .inl ⟨xs, SqL.of hS, ?_⟩
      refine ⟨p, _, _, rfl, dc, by omega, by omega, by omega, fun r H6 r0 r1 dc6 e6 => ?_⟩
      refine ⟨p, _, _, rfl, dc6, by omega, by omega, by omega, fun r2 H7 r20 r21 dc7 e7 => ?_⟩
      refine ⟨_, _, rfl, ?_⟩
      have e57 : ∀ b, b ≠ p → H7 b = H5 b := fun b hb => (e7 b hb).trans (e6 b hb)
      have hS7 : H7 St = some (.lst xs) := (e57 St hSp).trans hS
      have nx7 : Nxt p H H7 := nx.trans (Nxt.of_eq e57)
      obtain ⟨j, rfl⟩ : ∃ j : Nat, r = (j : Int) := ⟨r.toNat, by omega⟩
      have hj : j < xs.length := by omega
      have hv7 : ∀ v ∈ xs, StB St p (2 ^ i) n H7 v := fun v h => (hv v h).kp (Nat.le_refl _) (Int.le_refl _) (Kp.dice e57)
      obtain ⟨a, I, O, hav, ha, hac, hI, hO⟩ := hv7 xs[j] (List.getElem_mem hj)
      have hat : xs[j]? = some (.ref a) := by rw [List.getElem?_eq_getElem hj, hav]
      refine .inl ⟨_, .ref a, SqL.of hS7, atI_nat hat, ?_⟩
      refine ⟨a, _, rfl, SqL.of hac, rfl, _, _, rfl, _, _, rfl, rfl, ?_⟩
      have M1 : 2 ^ i ≤ 2 ^ (i + 1) := Nat.pow_le_pow_right (by decide) (by omega)
      have M2 : 1 ≤ 2 ^ i := Nat.one_le_two_pow
      have M3 : 2 ^ (i + 1) = 2 ^ i + 2 ^ i := by rw [Nat.pow_succ]; omega
      have cur : Cur St p (m + 4 * i + 2) H H7 H7 xs := ⟨hS7, dc7.mono (by omega), nx7, Kp.refl, hfr, hSp⟩
      refine ite2 (fun c => ?_) (fun c => ?_)
      · -- a sequence
        refine ⟨by simp, fun t1 H8 s8 n8 l8 => ?_⟩
        refine ⟨by simp, fun b1 H9 s9 n9 l9 => ?_⟩
        have c8 := cur.same s8
        have c9 := c8.same s9
        refine ⟨St, xs, _, j, rfl, rfl, c9.S, ixN_at hj, ?_⟩
        have c10 := c9.put (ys := xs.set j (.ref b1))
        have k10 : Kp St p H9 (upd H9 St (.lst (xs.set j (.ref b1)))) := Kp.upd
        generalize upd H9 St (.lst (xs.set j (.ref b1))) = H10 at c10 k10 ⊢
        refine ⟨St, _, rfl, c10.S, ?_⟩
        refine ⟨by simp, fun t2 H11 s11 n11 l11 => ?_⟩
        refine ⟨by simp, fun b2 H12 s12 n12 l12 => ?_⟩
        have c11 := c10.same s11
        have c12 := c11.same s12
        refine ⟨_, c12.S, by rw [List.length_set]; omega, ?_⟩
        have c13 := c12.put (ys := xs.set j (.ref b1) ++ [.ref b2])
        have k912 : Kp St p H9 H12 := (k10.trans (Kp.of s11)).trans (Kp.of s12)
        have h1 : StB St p (2 ^ (i + 1)) (n + 1) H12 (.ref b1) := ⟨b1, I, t1, rfl, c8.off n9, k912 _ _ (c8.off n9) l9, hI.kp M1 (by omega) c12.k, li_one (cur.off n8) (k912 _ _ (cur.off n8) (s9 _ _ l8)) (by omega) (by omega) (by omega)⟩
        have h2 : StB St p (2 ^ (i + 1)) (n + 1) H12 (.ref b2) := ⟨b2, t2, O, rfl, c11.off n12, l12, li_one (c10.off n11) (s12 _ _ l11) (by omega) (by omega) (by omega), hO.kp M1 (by omega) c12.k⟩
        have hall : AllB St p (2 ^ (i + 1)) (n + 1) H12 (xs.set j (.ref b1) ++ [.ref b2]) := AllB.snoc (AllB.set (AllB.kp hv7 M1 (by omega) c12.k) h1) h2
        exact ⟨n + 1, _, _, _, _, _, _, _, _, _, _, _, rfl, c13.S, c13.nx, c13.d.mono (by omega), by omega, by omega, by simp, by simp; omega, hall.kp (Nat.le_refl _) (Int.le_refl _) Kp.upd⟩
      obtain ⟨ins, eI, neI, leI, inI, cpI⟩ := hI.copy
      obtain ⟨outs, eO, neO, leO, inO, cpO⟩ := hO.copy
      refine ite2 (fun c2 => ?_) (fun c2 => ?_)
      · -- a choice
        refine ⟨St, _, rfl, cur.S, ?_⟩
        refine ⟨I, _, rfl, .inl (SqL.of eI), fun t1 H8 s8 n8 l8 => ?_⟩
        refine ⟨O, _, rfl, .inl (SqL.of (s8 _ _ eO)), fun t2 H9 s9 n9 l9 => ?_⟩
        refine ⟨by simp, fun b1 H10 s10 n10 l10 => ?_⟩
        have c8 := cur.same s8
        have c9 := c8.same s9
        have c10 := c9.same s10
        refine ⟨_, c10.S, by omega, ?_⟩
        have c13 := c10.put (ys := xs ++ [.ref b1])
        have h1 : StB St p (2 ^ i) n H10 (.ref b1) := ⟨b1, t1, t2, rfl, c9.off n10, l10, cpI _ _ (cur.off n8) (s10 _ _ (s9 _ _ l8)), cpO _ _ (c8.off n9) (s10 _ _ l9)⟩
        have hall : AllB St p (2 ^ i) n H10 (xs ++ [.ref b1]) := AllB.snoc (AllB.kp hv7 (Nat.le_refl _) (Int.le_refl _) c10.k) h1
        exact GS.mk c13 (by omega) hn2 (by omega) (by simp) (by simp; omega) (hall.kp M1 (Int.le_refl _) Kp.upd)
      refine ite2 (fun c3 => ?_) (fun c3 => ?_)
      · -- two branches
        refine ⟨by simp, fun t1 H8 s8 n8 l8 => ?_⟩
        refine ⟨by simp, fun b1 H9 s9 n9 l9 => ?_⟩
        have c8 := cur.same s8
        have c9 := c8.same s9
        refine ⟨St, xs, _, j, rfl, rfl, c9.S, ixN_at hj, ?_⟩
        have h1 : StB St p (2 ^ (i + 1)) (n + 4) H9 (.ref b1) := ⟨b1, I, t1, rfl, c8.off n9, l9, hI.kp M1 (by omega) c9.k, li_two (cur.off n8) (s9 _ _ l8) (by omega) (by omega) (by omega)⟩
        have c10 := c9.put (ys := xs.set j (.ref b1))
        have a10 : AllB St p (2 ^ (i + 1)) (n + 4) (upd H9 St (.lst (xs.set j (.ref b1)))) (xs.set j (.ref b1)) := (AllB.set (AllB.kp hv7 M1 (by omega) c9.k) h1).kp (Nat.le_refl _) (Int.le_refl _) Kp.upd
        have z10 : (xs.set j (.ref b1)).length = xs.length := List.length_set
        generalize upd H9 St (.lst (xs.set j (.ref b1))) = H10 at c10 a10 ⊢
        generalize xs.set j (.ref b1) = ys at c10 a10 z10
        refine ⟨St, _, rfl, c10.S, ?_⟩
        refine ⟨by simp, fun t2 H11 s11 n11 l11 => ?_⟩
        refine ⟨by simp, fun b2 H12 s12 n12 l12 => ?_⟩
        have c11 := c10.same s11
        have c12 := c11.same s12
        refine ⟨_, c12.S, by omega, ?_⟩
        have h2 : StB St p (2 ^ (i + 1)) (n + 4) H12 (.ref b2) := ⟨b2, t2, O, rfl, c11.off n12, l12, li_two (c10.off n11) (s12 _ _ l11) (by omega) (by omega) (by omega), hO.kp M1 (by omega) c12.k⟩
        have c13 := c12.put (ys := ys ++ [.ref b2])
        have a13 : AllB St p (2 ^ (i + 1)) (n + 4) (upd H12 St (.lst (ys ++ [.ref b2]))) (ys ++ [.ref b2]) := (AllB.snoc (a10.kp (Nat.le_refl _) (Int.le_refl _) ((Kp.of s11).trans (Kp.of s12))) h2).kp (Nat.le_refl _) (Int.le_refl _) Kp.upd
        have z13 : (ys ++ [V.ref b2]).length = xs.length + 1 := by rw [List.length_append, z10]; rfl
        generalize upd H12 St (.lst (ys ++ [.ref b2])) = H13 at c13 a13 ⊢
        generalize ys ++ [.ref b2] = zs at c13 a13 z13
        refine ⟨St, _, rfl, c13.S, ?_⟩
        refine ⟨by simp, fun t3 H14 s14' n14 l14 => ?_⟩
        refine ⟨by simp, fun t4 H15 s15 n15 l15 => ?_⟩
        refine ⟨by simp, fun b3 H16 s16 n16 l16 => ?_⟩
        have c14 := c13.same s14'
        have c15 := c14.same s15
        have c16 := c15.same s16
        refine ⟨_, c16.S, by omega, ?_⟩
        have h3 : StB St p (2 ^ (i + 1)) (n + 4) H16 (.ref b3) := ⟨b3, t3, t4, rfl, c15.off n16, l16, li_one (c13.off n14) (s16 _ _ (s15 _ _ l14)) (by omega) (by omega) (by omega), li_one (c14.off n15) (s16 _ _ l15) (by omega) (by omega) (by omega)⟩
        have c17 := c16.put (ys := zs ++ [.ref b3])
        have a17 : AllB St p (2 ^ (i + 1)) (n + 4) (upd H16 St (.lst (zs ++ [.ref b3]))) (zs ++ [.ref b3]) := (AllB.snoc (a13.kp (Nat.le_refl _) (Int.le_refl _) (((Kp.of s14').trans (Kp.of s15)).trans (Kp.of s16))) h3).kp (Nat.le_refl _) (Int.le_refl _) Kp.upd
        have z17 : (zs ++ [V.ref b3]).length = xs.length + 2 := by rw [List.length_append, z13]; rfl
        generalize upd H16 St (.lst (zs ++ [.ref b3])) = H17 at c17 a17 ⊢
        generalize zs ++ [.ref b3] = us at c17 a17 z17
        refine ⟨St, _, rfl, c17.S, ?_⟩
        refine ⟨by simp, fun t5 H18 s18 n18 l18 => ?_⟩
        refine ⟨by simp, fun t6 H19 s19 n19 l19 => ?_⟩
        refine ⟨by simp, fun b4 H20 s20 n20 l20 => ?_⟩
        have c18 := c17.same s18
        have c19 := c18.same s19
        have c20 := c19.same s20
        refine ⟨_, c20.S, by omega, ?_⟩
        have h4 : StB St p (2 ^ (i + 1)) (n + 4) H20 (.ref b4) := ⟨b4, t5, t6, rfl, c19.off n20, l20, li_one (c17.off n18) (s20 _ _ (s19 _ _ l18)) (by omega) (by omega) (by omega), li_one (c18.off n19) (s20 _ _ l19) (by omega) (by omega) (by omega)⟩
        have c21 := c20.put (ys := us ++ [.ref b4])
        have a21 : AllB St p (2 ^ (i + 1)) (n + 4) (upd H20 St (.lst (us ++ [.ref b4]))) (us ++ [.ref b4]) := (AllB.snoc (a17.kp (Nat.le_refl _) (Int.le_refl _) (((Kp.of s18).trans (Kp.of s19)).trans (Kp.of s20))) h4).kp (Nat.le_refl _) (Int.le_refl _) Kp.upd
        have z21 : (us ++ [V.ref b4]).length = xs.length + 3 := by rw [List.length_append, z17]; rfl
        exact GS.mk c21 (by omega) (by omega) (by omega) (by omega) (by omega) a21
      refine ite2 (fun c4 => ?_) (fun c4 => ?_)
      · -- a loop
        refine ⟨St, rfl, ⟨_, SqL.of cur.S⟩, fun D hD => ?_⟩
        have hDo := cur.off hD
        refine lc_it (walk_list (xs := xs)) (fun t H' => ∃ c : List V, H' D = some (.lst c) ∧ (∀ v ∈ c, v ∈ xs) ∧ c.length ≤ t ∧ ∀ b o, H7 b = some o → H' b = some o)
          ⟨[], upd_same, (fun v h => nomatch h), by simp, fun b o e => by rw [upd_ne (ne_of_none e hD)]; exact e⟩ (fun t H' _ ⟨_, _, _, _, kp⟩ => SqL.of (kp _ _ cur.S)) ?_ ?_
        · rintro t y H8 H9 ht ⟨c, hc, hcm, hcl, kp⟩ ⟨rfl, hy⟩
          obtain ⟨a2, I2, O2, rfl, ha2, hac2, ⟨hI2, ns2, hn2', _⟩, _⟩ := hv7 y (List.mem_of_getElem? hy)
          refine ⟨rfl, ?_⟩
          refine .inl ⟨_, .ref I2, SqL.of (kp _ _ hac2), rfl, ?_⟩
          refine ⟨I2, _, rfl, .inl (SqL.of (kp _ _ hn2')), rfl, flat_ints _, ?_⟩
          refine ite2 (fun c5 => ?_) (fun c5 => ?_)
          · refine ⟨c, hc, by rw [sizeLine_eq]; omega, c ++ [.ref a2], upd_same, fun v hv => ?_, by simp; omega, fun b o e => ?_⟩
            · rcases List.mem_append.mp hv with z | z
              · exact hcm v z
              · rw [List.mem_singleton.mp z]; exact List.mem_of_getElem? hy
            · rw [upd_ne (ne_of_none e hD)]
              exact kp _ _ e
          · exact ⟨c, hc, hcm, by omega, kp⟩
        · rintro H8 ⟨c, hc, hcm, hcl, kp⟩
          have s8 : Same H7 H8 := fun b o e => kp b o e
          have c8 := cur.same s8
          have hcB : ∀ v ∈ c, StB St p (2 ^ i) n H8 v := fun v h => (hv7 v (hcm v h)).kp (Nat.le_refl _) (Int.le_refl _) c8.k
          have hc25 : c.length ≤ 25 := by omega
          refine ⟨by simp, fun e1 H9 s9 n9 l9 => ?_⟩
          have c9 := c8.same s9
          have hcB9 : ∀ v ∈ c, StB St p (2 ^ i) n H9 v := fun v h => (hcB v h).kp (Nat.le_refl _) (Int.le_refl _) (Kp.of s9)
          obtain ⟨ds, hds, hdl, hlay, hdep⟩ := stas_dp (K := K) hcB9
          refine ⟨.list ds, .list [], .lst (SqL.of (s9 _ _ hc)) hds, .lst (SqL.of l9) .nil, shaped_of hlay hdep, by decide +kernel, ?_⟩
          rw [eqv_nil]
          refine ite2 (fun c6 => ?_) (fun c6 => ?_)
          · have hc0 : 0 < c.length := by
              rw [← hdl]
              cases ds with
              | nil => exact absurd c6 (by decide)
              | cons _ _ => simp
            refine ⟨p, D, _, c, rfl, c9.d, s9 _ _ hc, by omega, hDo.2, by omega, by omega, fun t v H10 hv10 dc10 e10 => ?_⟩
            have c10 := c9.dice e10 dc10
            obtain ⟨a2, I2, O2, rfl, ha2, hac2, hI2, hO2⟩ := (hcB9 v (List.mem_of_getElem? hv10)).kp (Nat.le_refl _) (Int.le_refl _) (Kp.dice e10)
            obtain ⟨ns2, eI2, _, _, _, cpI2⟩ := hI2.copy
            refine .inl ⟨_, .ref I2, SqL.of hac2, rfl, ?_⟩
            refine ⟨p, _, _, rfl, c10.d, by omega, by decide, by decide, fun r3 H11 r30 r31 dc11 e11 => ?_⟩
            have c11 := c10.dice e11 dc11
            have eI3 : H11 I2 = some (.lst (ns2.map V.int)) := (e11 I2 hI2.1.2).trans eI2
            refine ite2 (fun c7 => ?_) (fun c7 => ?_)
            · refine ⟨St, _, rfl, c11.S, ?_⟩
              refine ⟨I2, _, rfl, .inl (SqL.of eI3), fun t1 H12 s12 n12 l12 => ?_⟩
              refine ⟨I2, _, rfl, .inl (SqL.of (s12 _ _ eI3)), fun t2 H13 s13 n13 l13 => ?_⟩
              refine ⟨by simp, fun b1 H14 s14 n14 l14 => ?_⟩
              have c12 := c11.same s12
              have c13 := c12.same s13
              have c14 := c13.same s14
              refine ⟨_, c14.S, by omega, ?_⟩
              have h1 : StB St p (2 ^ i) n H14 (.ref b1) := ⟨b1, t1, t2, rfl, c13.off n14, l14, cpI2 _ _ (c11.off n12) (s14 _ _ (s13 _ _ l12)), cpI2 _ _ (c12.off n13) (s14 _ _ l13)⟩
              have hall : AllB St p (2 ^ i) n H14 (xs ++ [.ref b1]) := AllB.snoc (AllB.kp hv7 (Nat.le_refl _) (Int.le_refl _) c14.k) h1
              exact GS.mk (c14.put (ys := xs ++ [.ref b1])) (by omega) hn2 (by omega) (by simp) (by simp; omega) (hall.kp M1 (Int.le_refl _) Kp.upd)
            · refine ⟨St, _, rfl, c11.S, ?_⟩
              refine ⟨I2, _, rfl, .inl (SqL.of eI3), fun t1 H12 s12 n12 l12 => ?_⟩
              refine ⟨by simp, fun t2 H13 s13 n13 l13 => ?_⟩
              refine ⟨by simp, fun b1 H14 s14 n14 l14 => ?_⟩
              have c12 := c11.same s12
              have c13 := c12.same s13
              have c14 := c13.same s14
              refine ⟨_, c14.S, by omega, ?_⟩
              have h1 : StB St p (2 ^ (i + 1)) (n + 1) H14 (.ref b1) := ⟨b1, t1, t2, rfl, c13.off n14, l14, (cpI2 _ _ (c11.off n12) (s14 _ _ (s13 _ _ l12))).kp M1 (by omega) Kp.refl, li_one (c12.off n13) (s14 _ _ l13) (by omega) (by omega) (by omega)⟩
              have c15 := c14.put (ys := xs ++ [.ref b1])
              have a15 : AllB St p (2 ^ (i + 1)) (n + 1) (upd H14 St (.lst (xs ++ [.ref b1]))) (xs ++ [.ref b1]) := (AllB.snoc (AllB.kp hv7 M1 (by omega) c14.k) h1).kp (Nat.le_refl _) (Int.le_refl _) Kp.upd
              have z15 : (xs ++ [V.ref b1]).length = xs.length + 1 := by simp
              have eI5 : upd H14 St (.lst (xs ++ [.ref b1])) I2 = some (.lst (ns2.map V.int)) := by rw [upd_ne hI2.1.1]; exact s14 _ _ (s13 _ _ (s12 _ _ eI3))
              generalize upd H14 St (.lst (xs ++ [.ref b1])) = H15 at c15 a15 eI5 ⊢
              generalize xs ++ [.ref b1] = ys at c15 a15 z15
              refine ⟨St, _, rfl, c15.S, ?_⟩
              refine ⟨by simp, fun t3 H16 s16 n16 l16 => ?_⟩
              refine ⟨I2, _, rfl, .inl (SqL.of (s16 _ _ eI5)), fun t4 H17 s17 n17 l17 => ?_⟩
              refine ⟨by simp, fun b2 H18 s18 n18 l18 => ?_⟩
              have c16 := c15.same s16
              have c17 := c16.same s17
              have c18 := c17.same s18
              refine ⟨_, c18.S, by omega, ?_⟩
              have h2 : StB St p (2 ^ (i + 1)) (n + 1) H18 (.ref b2) := ⟨b2, t3, t4, rfl, c17.off n18, l18, li_one (c15.off n16) (s18 _ _ (s17 _ _ l16)) (by omega) (by omega) (by omega), (cpI2 _ _ (c16.off n17) (s18 _ _ l17)).kp M1 (by omega) Kp.refl⟩
              exact GS.mk (c18.put (ys := ys ++ [.ref b2])) (by omega) (by omega) (by omega) (by simp) (by simp; omega) ((AllB.snoc (a15.kp (Nat.le_refl _) (Int.le_refl _) (((Kp.of s16).trans (Kp.of s17)).trans (Kp.of s18))) h2).kp (Nat.le_refl _) (Int.le_refl _) Kp.upd)
          · exact GS.mk c9 (by omega) hn2 (by omega) hl1 (by omega) (AllB.kp hv7 M1 (Int.le_refl _) c9.k)
      · -- two steps at once
        refine ⟨St, rfl, ⟨_, SqL.of cur.S⟩, fun D hD => ?_⟩
        have hDo := cur.off hD
        have M8 : 2 ^ i ≤ 2 ^ 8 := Nat.pow_le_pow_right (by decide) (by omega)
        refine lc_it (walk_list (xs := xs)) (fun t H' => ∃ c : List V, H' D = some (.lst c) ∧ (∀ v ∈ c, v ∈ xs) ∧ c.length ≤ t ∧ ∀ b o, H7 b = some o → H' b = some o)
          ⟨[], upd_same, (fun v h => nomatch h), by simp, fun b o e => by rw [upd_ne (ne_of_none e hD)]; exact e⟩ (fun t H' _ ⟨_, _, _, _, kp⟩ => SqL.of (kp _ _ cur.S)) ?_ ?_
        · rintro t y H8 H9 ht ⟨c, hc, hcm, hcl, kp⟩ ⟨rfl, hy⟩
          obtain ⟨a2, I2, O2, rfl, ha2, hac2, ⟨hI2, ns2, hn2', _, hl2, _⟩, _⟩ := hv7 y (List.mem_of_getElem? hy)
          refine ⟨rfl, ?_⟩
          refine .inl ⟨_, .ref I2, SqL.of (kp _ _ hac2), rfl, ?_⟩
          refine ⟨I2, rfl, ⟨_, SqL.of (kp _ _ hn2')⟩, fun D2 hD2 => ?_⟩
          refine lc_it (walk_list (xs := ns2.map V.int)) (fun t H' => H' D2 = some (.lst ((((ns2.take t).filter fun k => !decide (k ∈ outs)).map fun _ => (1 : Int)).map V.int)) ∧ ∀ b o, H9 b = some o → H' b = some o)
            ⟨upd_same, fun b o e => by rw [upd_ne (ne_of_none e hD2)]; exact e⟩ (fun t H' _ ⟨_, kp2⟩ => SqL.of (kp2 _ _ (kp _ _ hn2'))) ?_ ?_
          · rintro t2 z H10 H11 ht2 ⟨hD10, kp2⟩ ⟨rfl, hz⟩
            rw [List.getElem?_map] at hz
            cases q2 : ns2[t2]? with
            | none => rw [q2] at hz; cases hz
            | some z' =>
              rw [q2] at hz
              cases hz
              rw [List.length_map] at ht2
              refine ⟨rfl, O, _, rfl, .inl (SqL.of (kp2 _ _ (kp _ _ eO))), rfl, flat_ints _, ?_⟩
              rw [if_pos rfl, inV_int]
              refine ite2 (fun c5 => ?_) (fun c5 => ?_)
              · refine ⟨_, hD10, ?_, ?_, fun b o e => ?_⟩
                · rw [List.length_map, List.length_map, sizeLine_eq]
                  have := List.length_filter_le (fun k => !decide (k ∈ outs)) (ns2.take t2)
                  rw [List.length_take] at this
                  omega
                · rw [upd_same, take_filter q2, if_pos c5, List.map_append, List.map_append]
                  rfl
                · rw [upd_ne (ne_of_none e hD2)]
                  exact kp2 b o e
              · refine ⟨?_, kp2⟩
                rw [take_filter q2, if_neg c5, List.append_nil]
                exact hD10
          · rintro H10 ⟨hD10, kp2⟩
            refine ⟨by simp, fun p9 H11 s11 n11 l11 => ?_⟩
            have kp11 : ∀ b o, H7 b = some o → H11 b = some o := fun b o e => s11 _ _ (kp2 _ _ (kp _ _ e))
            have hc11 := s11 _ _ (kp2 _ _ hc)
            refine ⟨.list _, .list [], .lst (SqL.of (s11 _ _ hD10)) (dp_ints _), .lst (SqL.of l11) .nil, ints_shaped _, by decide +kernel, ?_⟩
            refine ite2 (fun c5 => ?_) (fun c5 => ?_)
            · refine ⟨c, hc11, by rw [sizeLine_eq]; omega, c ++ [.ref a2], upd_same, fun v hv => ?_, by simp; omega, fun b o e => ?_⟩
              · rcases List.mem_append.mp hv with z | z
                · exact hcm v z
                · rw [List.mem_singleton.mp z]; exact List.mem_of_getElem? hy
              · rw [upd_ne (ne_of_none e hD)]
                exact kp11 _ _ e
            · exact ⟨c, hc11, hcm, by omega, kp11⟩
        · rintro H8 ⟨c, hc, hcm, hcl, kp⟩
          have s8 : Same H7 H8 := fun b o e => kp b o e
          have c8 := cur.same s8
          have hcB : ∀ v ∈ c, StB St p (2 ^ i) n H8 v := fun v h => (hv7 v (hcm v h)).kp (Nat.le_refl _) (Int.le_refl _) c8.k
          have hc25 : c.length ≤ 25 := by omega
          refine ⟨by simp, fun e1 H9 s9 n9 l9 => ?_⟩
          have c9 := c8.same s9
          have hcB9 : ∀ v ∈ c, StB St p (2 ^ i) n H9 v := fun v h => (hcB v h).kp (Nat.le_refl _) (Int.le_refl _) (Kp.of s9)
          obtain ⟨ds, hds, hdl, hlay, hdep⟩ := stas_dp (K := K) hcB9
          refine ⟨.list ds, .list [], .lst (SqL.of (s9 _ _ hc)) hds, .lst (SqL.of l9) .nil, shaped_of hlay hdep, by decide +kernel, ?_⟩
          rw [eqv_nil]
          refine ite2 (fun c6 => ?_) (fun c6 => ?_)
          · have hc0 : 0 < c.length := by
              rw [← hdl]
              cases ds with
              | nil => exact absurd c6 (by decide)
              | cons _ _ => simp
            refine ⟨p, D, _, c, rfl, c9.d, s9 _ _ hc, by omega, hDo.2, by omega, by omega, fun t v H10 hv10 dc10 e10 => ?_⟩
            have c10 := c9.dice e10 dc10
            obtain ⟨a2, I2, O2, rfl, ha2, hac2, hI2, hO2⟩ := (hcB9 v (List.mem_of_getElem? hv10)).kp (Nat.le_refl _) (Int.le_refl _) (Kp.dice e10)
            obtain ⟨ns2, eI2, _, leI2, _, _⟩ := hI2.copy
            obtain ⟨ms2, eO2, neO2, leO2, inO2, _⟩ := hO2.copy
            have eI10 : H10 I = some (.lst (ins.map V.int)) := c10.k _ _ hI.1 eI
            have eO10 : H10 O = some (.lst (outs.map V.int)) := c10.k _ _ hO.1 eO
            refine ⟨St, _, rfl, c10.S, ?_⟩
            refine ⟨I, _, rfl, .inl (SqL.of eI10), fun t1 H11 s11 n11 l11 => ?_⟩
            have c11 := c10.same s11
            refine ⟨O, rfl, ⟨_, SqL.of (s11 _ _ eO10)⟩, fun D3 hD3 => ?_⟩
            refine lc_it (walk_list (xs := outs.map V.int)) (fun t H' => H' D3 = some (.lst (((outs.take t).filter fun k => !decide (k ∈ ns2)).map V.int)) ∧ ∀ b o, H11 b = some o → H' b = some o)
              ⟨upd_same, fun b o e => by rw [upd_ne (ne_of_none e hD3)]; exact e⟩ (fun t H' _ ⟨_, kp2⟩ => SqL.of (kp2 _ _ (s11 _ _ eO10))) ?_ ?_
            · rintro t2 z H12 H13 ht2 ⟨hD12, kp2⟩ ⟨rfl, hz⟩
              rw [List.getElem?_map] at hz
              cases q2 : outs[t2]? with
              | none => rw [q2] at hz; cases hz
              | some z' =>
                rw [q2] at hz
                cases hz
                rw [List.length_map] at ht2
                refine ⟨rfl, .inl ⟨_, .ref I2, SqL.of (kp2 _ _ (s11 _ _ hac2)), rfl, ?_⟩⟩
                refine ⟨I2, _, rfl, .inl (SqL.of (kp2 _ _ (s11 _ _ eI2))), rfl, flat_ints _, ?_⟩
                rw [if_pos rfl, inV_int]
                refine ite2 (fun c5 => ?_) (fun c5 => ?_)
                · refine ⟨_, hD12, ?_, ?_, fun b o e => ?_⟩
                  · rw [List.length_map, sizeLine_eq]
                    have := List.length_filter_le (fun k => !decide (k ∈ ns2)) (outs.take t2)
                    rw [List.length_take] at this
                    omega
                  · rw [upd_same, take_filter q2, if_pos c5, List.map_append]
                    rfl
                  · rw [upd_ne (ne_of_none e hD3)]
                    exact kp2 b o e
                · refine ⟨?_, kp2⟩
                  rw [take_filter q2, if_neg c5, List.append_nil]
                  exact hD12
            · rintro H12 ⟨hD12, kp2⟩
              rw [List.length_map, List.take_length] at hD12
              have s12 : Same H11 H12 := fun b o e => kp2 b o e
              have c12 := c11.same s12
              refine .inl ⟨_, .ref O2, SqL.of (s12 _ _ (s11 _ _ hac2)), rfl, ?_⟩
              refine ⟨O2, _, rfl, .inl (SqL.of (s12 _ _ (s11 _ _ eO2))), fun t2 H13 s13 n13 l13 => ?_⟩
              have c13 := c12.same s13
              have hfl := List.length_filter_le (fun k => !decide (k ∈ ns2)) outs
              refine .inl ⟨_, _, s13 _ _ hD12, l13, by rw [List.length_map, List.length_map]; omega, fun t3 H14 s14 n14 l14 => ?_⟩
              have c14 := c13.same s14
              refine ⟨by simp, fun b1 H15 s15 n15 l15 => ?_⟩
              have c15 := c14.same s15
              refine ⟨_, c15.S, by omega, ?_⟩
              rw [← List.map_append] at l14
              have h1 : StB St p (2 ^ (i + 1)) n H15 (.ref b1) := by
                refine ⟨b1, t1, t3, rfl, c14.off n15, l15, (cpI _ _ (c10.off n11) (s15 _ _ (s14 _ _ (s13 _ _ (s12 _ _ l11))))).kp M1 (Int.le_refl _) Kp.refl, c13.off n14, _, s15 _ _ l14, ?_, ?_, fun k hk => ?_⟩
                · intro z
                  exact neO2 (List.append_eq_nil_iff.mp z).2
                · rw [List.length_append]
                  omega
                · rcases List.mem_append.mp hk with z | z
                  · exact inO k (List.mem_filter.mp z).1
                  · exact inO2 k z
              have hall : AllB St p (2 ^ (i + 1)) n H15 (xs ++ [.ref b1]) := AllB.snoc (AllB.kp hv7 M1 (Int.le_refl _) c15.k) h1
              exact GS.mk (c15.put (ys := xs ++ [.ref b1])) (by omega) hn2 (by omega) (by simp) (by simp; omega) (hall.kp (Nat.le_refl _) (Int.le_refl _) Kp.upd)
          · exact GS.mk c9 (by omega) hn2 (by omega) hl1 (by omega) (AllB.kp hv7 M1 (Int.le_refl _) c9.k)
    · rintro σ H5 ⟨n, xs, o4, o5, o6, o7, o8, o9, o10, o11, o12, o13, rfl, hS, nx, dc, hn2, hn, hl1, hl, hv⟩
      have et : ((turns : Nat) : Int).toNat = turns := by omega
      rw [et] at dc hn hl hv
      refine ⟨by simp, fun G H6 s6 n6 l6 => ?_⟩
      have M8 : 2 ^ turns ≤ 2 ^ 8 := Nat.pow_le_pow_right (by decide) ht
      refine k G n xs H6 (nx.trans (Nxt.of s6)) ((dc.same s6).mono (by omega)) ⟨St, dc.ne n6, hSp, l6, s6 _ _ hS, hn2, hl1, fun v h => (hv v h).go (by omega) (Int.le_refl _) (fun _ q => q.2) fun b o _ e => s6 b o e⟩ (by omega) (by omega)

end
end K02

set_option Elab.async false
set_option linter.all false
set_option maxRecDepth 100000
set_option maxHeartbeats 4000000
namespace K02
open PySem L2 PySem.KX StX
abbrev s_law_spoilt : Stmt := top 31
abbrev N_sp : List Str := ["dice", "grown", "total", "steps", "step", "way", "place", "gone", "one", "other"]
theorem sc_law_spoilt : FnScope N_sp ["dice", "grown"] (defScope s_law_spoilt) := ⟨rfl, rfl, rfl, by decide +kernel, rfl, by decide +kernel, by decide +kernel⟩
theorem ints_ne_refs {ns : List Int} {xs : List V} (h0 : xs ≠ []) (h : ∀ v ∈ xs, ∃ a, v = .ref a) : ns.map V.int ≠ xs := fun z => by
  cases xs with
  | nil => exact h0 rfl
  | cons v r =>
    obtain ⟨a, rfl⟩ := h v List.mem_cons_self
    cases ns with
    | nil => cases z
    | cons n t => cases z
theorem erase_map {α β : Type} (f : α → β) : ∀ (l : List α) (i : Nat), (l.map f).eraseIdx i = (l.eraseIdx i).map f
  | [], _ => rfl
  | _ :: _, 0 => rfl
  | a :: l, i + 1 => by
    show f a :: (l.map f).eraseIdx i = f a :: (l.eraseIdx i).map f
    rw [erase_map f l i]
/-- one list of places is another one now -/
theorem StA.mut {O : Addr → Prop} {M M' : Nat} {n : Int} {H H' : Hp} {v : V} {j : Addr} {ns ms : List Int} (h : StA O M n H v) (hj : H j = some (.lst (ns.map V.int))) (hj' : H' j = some (.lst (ms.map V.int))) (h1 : ms ≠ []) (h2 : ms.length ≤ M') (h3 : ∀ k ∈ ms, 0 ≤ k ∧ k < n) (hm : M ≤ M') (e : ∀ b, b ≠ j → H' b = H b) : StA O M' n H' v := by
  obtain ⟨a, i, o, rfl, ha, hac, hi, ho⟩ := h
  have aj : a ≠ j := fun z => by
    rw [z, hj] at hac
    exact ints_ne_refs (xs := [.ref i, .ref o]) (by simp) (fun v hv => by
      rcases List.mem_cons.mp hv with rfl | q
      · exact ⟨_, rfl⟩
      · exact ⟨_, List.mem_singleton.mp q⟩) (HO.lst.inj (Option.some.inj hac))
  have li : ∀ {b : Addr}, LI O M n H b → LI O M' n H' b := fun {b} hb => by
    obtain ⟨h0, ks, k1, k2, k3, k4⟩ := hb
    by_cases q : b = j
    · subst q
      exact ⟨h0, ms, hj', h1, h2, h3⟩
    · exact ⟨h0, ks, (e b q).trans k1, k2, by omega, k4⟩
  exact ⟨a, i, o, rfl, ha, (e a aj).trans hac, li hi, li ho⟩
section
variable {P : Program} {w : World} {K : PySem.W.Frag} {mg : Str → Option Value} {base : Heap}
/-- fresh since H0, not the dice, not the list of steps -/
abbrev Fr (p S2 : Addr) (H0 : Hp) (b : Addr) : Prop := b ≠ p ∧ H0 b = none ∧ b ≠ S2
structure SI (p S2 : Addr) (H0 : Hp) (n : Int) (xs : List V) (M : Nat) (m : Int) (H : Hp) : Prop where
  S : H S2 = some (.lst xs)
  nx : Nxt p H0 H
  d : Dc p m H
  all : ∀ v ∈ xs, StA (Fr p S2 H0) M n H v
theorem SI.mut {p S2 j : Addr} {H0 H H' : Hp} {n m : Int} {xs : List V} {M M' : Nat} {ns ms : List Int} (h : SI p S2 H0 n xs M m H) (f : Fr p S2 H0 j) (ej : H j = some (.lst (ns.map V.int))) (ej' : H' j = some (.lst (ms.map V.int))) (h1 : ms ≠ []) (h2 : ms.length ≤ M') (h3 : ∀ k ∈ ms, 0 ≤ k ∧ k < n) (hm : M ≤ M') (e : ∀ b, b ≠ j → H' b = H b) : SI p S2 H0 n xs M' m H' := by
  refine ⟨(e _ (Ne.symm f.2.2)).trans h.S, nxt_of fun b o hb q => ?_, ?_, fun v hv => (h.all v hv).mut ej ej' h1 h2 h3 hm e⟩
  · rw [e b (ne_of_none q f.2.1)]
    exact h.nx.get hb q
  · obtain ⟨g, u, k, q, r⟩ := h.d
    exact ⟨g, u, k, (e p (Ne.symm f.1)).trans q, r⟩
theorem SI.same {p S2 : Addr} {H0 H H' : Hp} {n m : Int} {xs : List V} {M : Nat} (h : SI p S2 H0 n xs M m H) (s : Same H H') : SI p S2 H0 n xs M m H' := ⟨s _ _ h.S, h.nx.trans (Nxt.of s), h.d.same s, fun v hv => (h.all v hv).go (Nat.le_refl _) (Int.le_refl _) (fun _ q => q) fun b o _ e => s b o e⟩
theorem SI.dice {p S2 : Addr} {H0 H H' : Hp} {n m m' : Int} {xs : List V} {M : Nat} (h : SI p S2 H0 n xs M m H) (h0 : S2 ≠ p) (e : ∀ b, b ≠ p → H' b = H b) (d : Dc p m' H') : SI p S2 H0 n xs M m' H' := ⟨(e _ h0).trans h.S, h.nx.trans (Nxt.of_eq e), d, fun v hv => (h.all v hv).go (Nat.le_refl _) (Int.le_refl _) (fun _ q => q) fun b o hb q => (e b hb.1).trans q⟩
theorem SI.up {p S2 : Addr} {H0 H : Hp} {n m m' : Int} {xs : List V} {M M' : Nat} (h : SI p S2 H0 n xs M m H) (h1 : M ≤ M') (h2 : m ≤ m') : SI p S2 H0 n xs M' m' H := ⟨h.S, h.nx, h.d.mono h2, fun v hv => (h.all v hv).go h1 (Int.le_refl _) (fun _ q => q) fun b o _ e => e⟩
def spSpoilt : Sp := fun vs H Q _ => ∃ (p G : Addr) (m : Int) (M : Nat) (n : Int) (xs : List V), vs = [.ref p, .ref G] ∧ Dc p m H ∧ m + 1000 < 2 ^ 30 ∧ GrA p M H G n xs ∧ M ≤ 3000 ∧ n ≤ 34 ∧ xs.length ≤ 40 ∧
  ∀ (G' : Addr) (ys : List V) (H' : Hp), Nxt p H H' → Dc p (m + 40) H' → GrA p (M + 50) H' G' n ys → ys.length = xs.length → Q (.ref G') H'
theorem ok_law_spoilt {f : Addr} {fd : FuncData} (Fu : Fun K "_law_spoilt" "_law_spoilt" s_law_spoilt f fd) (TX : TxtX mg) (O_law_roll : Own P w K mg base CX0 "_law_roll" 1 ["dice", "total"] spRollD) (O_law_one_of : Own P w K mg base CX0 "_law_one_of" 2 ["dice", "items"] spOneD) : FnG P w K mg base CX0 3 f fd ["dice", "grown"] spSpoilt := by
  have nd := sc_law_spoilt.nd
  refine okG Fu sc_law_spoilt (fun vs H Q E h => ?_) (fun cdv A outer s H vs Q E hr h => ?_)
  · obtain ⟨_, _, _, _, _, _, rfl, _⟩ := h
    rfl
  · obtain ⟨p, G, m, M, n, xs0, rfl, hp, hm, hG, hM, hn, hl0, k⟩ := h
    refine ⟨_, (pss_cons (ps_asg (av 1) (pg_unp rfl (pgs_cons (pg_name (i := 2) nd rfl (by first | exact Or.inl rfl | exact Or.inr rfl)) (pgs_cons (pg_name (i := 3) nd rfl (by first | exact Or.inl rfl | exact Or.inr rfl)) pgs_nil))))
      (pss_cons (ps_setLc (i := 3) (own := [("step", 4)]) (by rfl) nd rfl rfl (sw_true rfl rfl rfl (by decide +kernel)) (pi_list (av 3)) (blkOk_by (N := N_sp) (sc := defScope s_law_spoilt) (by decide +kernel)) (fun _ _ _ _ _ => (pg_name (i := 4) nd rfl (by first | exact Or.inl rfl | exact Or.inr rfl))) (fun _ _ _ _ _ => pts_nil) (fun _ _ _ _ _ => (show PE _ _ (tLstS (tCons (tCB (rLstS K) (tCons (tOp (rIxA K) (aVar 4) (tC (.int 0))) tNil)) (tCons (tCB (rLstS K) (tCons (tOp (rIxA K) (aVar 4) (tC (.int 1))) tNil)) tNil))) from pe_lstS (pa_cons (pe_callTy call_lstS (by rfl) TX.list (by decide +kernel) (pa_cons (pe_ixA (av 4) pe_int) pa_nil)) (pa_cons (pe_callTy call_lstS (by rfl) TX.list (by decide +kernel) (pa_cons (pe_ixA (av 4) pe_int) pa_nil)) pa_nil)))))
      (pss_cons (ps_set (i := 4) nd rfl (by first | exact Or.inl rfl | exact Or.inr rfl) (pe_own O_law_one_of hr (pa_cons (av 0) (pa_cons (av 3) pa_nil)) (by decide)))
      (pss_cons (ps_asg (pe_tupS (pa_cons (pe_own O_law_roll hr (pa_cons (av 0) (pa_cons pe_int pa_nil)) (by decide)) (pa_cons (pe_op op_addA pe_int (pe_own O_law_roll hr (pa_cons (av 0) (pa_cons (pe_op op_subA (av 2) pe_int) pa_nil)) (by decide))) pa_nil))) (pg_tup rfl (pgs_cons (pg_name (i := 5) nd rfl (by first | exact Or.inl rfl | exact Or.inr rfl)) (pgs_cons (pg_name (i := 6) nd rfl (by first | exact Or.inl rfl | exact Or.inr rfl)) pgs_nil))))
      (pss_cut (ps_if (PW.pt (pw_and (pt_cmpA (op_eqA hr.units64) (av 5) pe_int) (pw_and1 (pt_cmpA op_notIn_seq (av 6) (pe_ixA (av 4) pe_int))))) (pss_one (ps_expr (pe_appS (pe_ixA (av 4) pe_int) (av 6)))) pss_nil)
      (pss_cut (ps_if (PW.pt (pw_and (pt_cmpA (op_eqA hr.units64) (av 5) pe_int) (pw_and1 (pt_cmpA op_gtA (pe_callB call_lenA (by rfl) TX.len PySem.boot_len (pa_cons (pe_ixA (av 4) pe_int) pa_nil)) pe_int)))) (pss_one (ps_expr (pe_bm PySem.F.plainAttrs_list PySem.F.slot_list_pop PySem.F.type_list_pop mt_popAt (pe_ixA (av 4) pe_int) (pa_cons (pe_own O_law_roll hr (pa_cons (av 0) (pa_cons (pe_callB call_lenA (by rfl) TX.len PySem.boot_len (pa_cons (pe_ixA (av 4) pe_int) pa_nil)) pa_nil)) (by decide)) pa_nil)))) pss_nil)
      (pss_cut (ps_if (PW.pt (pw_and (pt_cmpA (op_eqA hr.units64) (av 5) pe_int) (pw_and1 (pt_cmpA op_notIn_seq (av 6) (pe_ixA (av 4) pe_int))))) (pss_cons (ps_set (i := 7) nd rfl (by first | exact Or.inl rfl | exact Or.inr rfl) (pe_own O_law_roll hr (pa_cons (av 0) (pa_cons (pe_callB call_lenA (by rfl) TX.len PySem.boot_len (pa_cons (pe_ixA (av 4) pe_int) pa_nil)) pa_nil)) (by decide)))
      (pss_cons (ps_expr (pe_bm PySem.F.plainAttrs_list PySem.F.slot_list_pop PySem.F.type_list_pop mt_popAt (pe_ixA (av 4) pe_int) (pa_cons (av 7) pa_nil)))
      (pss_one (ps_expr (pe_appS (pe_ixA (av 4) pe_int) (av 6)))))) pss_nil)
      (pss_cut (ps_if (PW.pt (pw_and (pt_cmpA (op_eqA hr.units64) (av 5) pe_int) (pw_and1 (pt_cmpA op_gtA (av 6) pe_int)))) (pss_one (ps_if (pt_cmpA (op_eqA hr.units64) (pe_lc (own := [("one", 8)]) (by rfl) nd (pi_list (av 3)) (blkOk_by (N := N_sp) (sc := defScope s_law_spoilt) (by decide +kernel)) (fun _ _ _ _ _ => (pg_name (i := 8) nd rfl (by first | exact Or.inl rfl | exact Or.inr rfl))) (fun _ _ _ _ _ => (pts_one (show PT _ _ (aTest (tOp (rIn K false) (aVar 6) (tOp (rIxA K) (aVar 8) (tC (.int 0))))) from pt_cmpA op_in_seq (av 6) (pe_ixA (av 8) pe_int)))) (fun _ _ _ _ _ => pe_int)) (pe_lstS pa_nil)) (pss_one (ps_for PassesOwn.never rfl (pi_list (pe_lc (own := [("other", 9)]) (by rfl) nd (pi_list (av 3)) (blkOk_by (N := N_sp) (sc := defScope s_law_spoilt) (by decide +kernel)) (fun _ _ _ _ _ => (pg_name (i := 9) nd rfl (by first | exact Or.inl rfl | exact Or.inr rfl))) (fun _ _ _ _ _ => (pts_one (show PT _ _ (aTest (tOp (rEqA K) (tOp (rIxA K) (aVar 9) (tC (.int 0))) (tOp (rIxA K) (aVar 4) (tC (.int 0))))) from pt_cmpA (op_eqA hr.units64) (pe_ixA (av 9) pe_int) (pe_ixA (av 4) pe_int)))) (fun _ _ _ _ _ => (av 9)))) (pg_name (i := 8) nd rfl (by first | exact Or.inl rfl | exact Or.inr rfl)) (pss_one (ps_expr (pe_appS (pe_ixA (av 8) pe_int) (av 6)))))) pss_nil)) pss_nil)
      (pss_one (ps_ret (pe_lstS (pa_cons (av 2) (pa_cons (av 3) pa_nil))))))))))))), ?_⟩
    obtain ⟨St, hGp, hSp, eG, eS, h2, h1, hv⟩ := hG
    refine ⟨G, _, rfl, SqL.of eG, rfl, _, _, rfl, _, _, rfl, rfl, ?_⟩
    refine ⟨St, rfl, ⟨_, SqL.of eS⟩, fun S2 hS2 => ?_⟩
    have hS2p : S2 ≠ p := hp.ne hS2
    refine lc_it (walk_list (xs := xs0)) (fun t H' => ∃ c : List V, H' S2 = some (.lst c) ∧ (∀ v ∈ c, StA (Fr p S2 H) M n H' v) ∧ c.length = t ∧ ∀ b o, H b = some o → H' b = some o)
      ⟨[], upd_same, (fun v h => nomatch h), rfl, fun b o e => by rw [upd_ne (ne_of_none e hS2)]; exact e⟩ (fun t H' _ ⟨_, _, _, _, kp⟩ => SqL.of (kp _ _ eS)) ?_ ?_
    · rintro t y H2 H3 ht ⟨c, hc, hcm, hcl, kp⟩ ⟨rfl, hy⟩
      obtain ⟨a, I, O, rfl, ha, hac, ⟨hIp, ns, eI, neI, leI, inI⟩, hOp, ms, eO, neO, leO, inO⟩ := hv y (List.mem_of_getElem? hy)
      refine ⟨rfl, ?_⟩
      refine .inl ⟨_, .ref I, SqL.of (kp _ _ hac), rfl, ?_⟩
      refine ⟨I, _, rfl, .inl (SqL.of (kp _ _ eI)), fun t1 H4 s4 n4 l4 => ?_⟩
      refine .inl ⟨_, .ref O, SqL.of (s4 _ _ (kp _ _ hac)), rfl, ?_⟩
      refine ⟨O, _, rfl, .inl (SqL.of (s4 _ _ (kp _ _ eO))), fun t2 H5 s5 n5 l5 => ?_⟩
      refine ⟨by simp, fun b1 H6 s6 n6 l6 => ?_⟩
      have s3 : Same H H3 := fun b o e => kp b o e
      have fr : ∀ {Hx : Hp} {b : Addr}, Same H3 Hx → Hx b = none → Fr p S2 H b := fun {Hx b} s e => ⟨(hp.same (s3.trans s)).ne e, (s3.trans s).free e, fun z => by
        rw [z, s _ _ hc] at e
        cases e⟩
      have f1 := fr (Same.refl _) n4
      have f2 := fr s4 n5
      have f3 := fr (s4.trans s5) n6
      have hc6 := s6 _ _ (s5 _ _ (s4 _ _ hc))
      have s36 := (s4.trans s5).trans s6
      refine ⟨c, hc6, by rw [sizeLine_eq]; omega, c ++ [.ref b1], upd_same, fun v hv => ?_, by simp [hcl], fun b o e => ?_⟩
      · have st : StA (Fr p S2 H) M n H6 v := by
          rcases List.mem_append.mp hv with z | z
          · exact (hcm v z).go (Nat.le_refl _) (Int.le_refl _) (fun _ q => q) fun b o _ e => s36 b o e
          · rw [List.mem_singleton.mp z]
            exact ⟨b1, t1, t2, rfl, f3, l6, ⟨f1, ns, s6 _ _ (s5 _ _ l4), neI, leI, inI⟩, f2, ms, s6 _ _ l5, neO, leO, inO⟩
        exact st.go (Nat.le_refl _) (Int.le_refl _) (fun _ q => q) fun b o hb e => by rw [upd_ne hb.2.2]; exact e
      · rw [upd_ne (ne_of_none e hS2)]
        exact s36 _ _ (kp _ _ e)
    rintro H2 ⟨xs, hc, hcm, hcl, kp⟩
    have s2 : Same H H2 := fun b o e => kp b o e
    refine ⟨p, S2, m, xs, rfl, hp.same s2, hc, by omega, hS2p, by omega, by omega, fun t v0 H3 hv0 dc3 e3 => ?_⟩
    refine ⟨p, _, _, rfl, dc3, by omega, by decide, by decide, fun way H4 w0 w1 dc4 e4 => ?_⟩
    refine ⟨p, _, _, rfl, dc4, by omega, by omega, by omega, fun r H5 r0 r1 dc5 e5 => ?_⟩
    refine ⟨by simp, fun T H6 s6 n6 l6 => ?_⟩
    refine ⟨T, _, rfl, SqT.of l6, rfl, _, _, rfl, _, _, rfl, rfl, ?_⟩
    have I0 : SI p S2 H n xs M m H2 := ⟨hc, Nxt.of s2, hp.same s2, hcm⟩
    have I6 : SI p S2 H n xs M (m + 3) H6 := ((((I0.dice hS2p e3 dc3).dice hS2p e4 dc4).dice hS2p e5 dc5).same s6).up (Nat.le_refl _) (by omega)
    have hv0m : v0 ∈ xs := List.mem_of_getElem? hv0
    have hpl : 0 ≤ 1 + r ∧ 1 + r < n := by omega
    generalize 1 + r = place at hpl ⊢
    -- way 0
    refine ⟨fun σ H' => ∃ o7 o8 o9 : Option V, σ = [some (.ref p), some (.ref G), some (.int n), some (.ref S2), some v0, some (.int way), some (.int place), o7, o8, o9] ∧ SI p S2 H n xs (M + 1) (m + 3) H', ?_, ?_⟩
    · refine ite2 (fun c => ?_) (fun c => ?_)
      · obtain ⟨a, I, O, rfl, ha, hac, hI, hOf, ms, eO, neO, leO, inO⟩ := I6.all v0 hv0m
        refine .inl ⟨_, .ref O, SqL.of hac, rfl, ?_⟩
        refine ⟨O, _, rfl, .inl (SqL.of eO), rfl, flat_ints _, ?_⟩
        refine ite2 (fun c2 => ?_) (fun c2 => ?_)
        · refine .inl ⟨_, .ref O, SqL.of hac, rfl, ?_⟩
          refine ⟨O, _, rfl, eO, _, eO, by rw [List.length_map]; omega, ?_⟩
          exact ⟨_, _, _, rfl, I6.mut (ms := ms ++ [place]) hOf eO (by rw [upd_same, List.map_append]; rfl) (by simp) (by simp; omega) (fun k hk => by
            rcases List.mem_append.mp hk with z | z
            · exact inO k z
            · rw [List.mem_singleton.mp z]; exact hpl) (by omega) fun b hb => upd_ne hb⟩
        · exact ⟨_, _, _, rfl, I6.up (by omega) (Int.le_refl _)⟩
      · exact ⟨_, _, _, rfl, I6.up (by omega) (Int.le_refl _)⟩
    rintro σ H7 ⟨o7, o8, o9, rfl, I7⟩
    -- way 1
    refine ⟨fun σ H' => ∃ o7 o8 o9 : Option V, σ = [some (.ref p), some (.ref G), some (.int n), some (.ref S2), some v0, some (.int way), some (.int place), o7, o8, o9] ∧ SI p S2 H n xs (M + 1) (m + 4) H', ?_, ?_⟩
    · refine ite2 (fun c => ?_) (fun c => ?_)
      · obtain ⟨a, I, O, rfl, ha, hac, hI, hOf, ms, eO, neO, leO, inO⟩ := I7.all v0 hv0m
        refine .inl ⟨_, .ref O, SqL.of hac, rfl, ?_⟩
        refine .inl ⟨_, SqL.of eO, ?_⟩
        refine ite2 (fun c2 => ?_) (fun c2 => ?_)
        · have hml : 1 < ms.length := by
            have := of_decide_eq_true c2
            rw [List.length_map] at this
            omega
          refine .inl ⟨_, .ref O, SqL.of hac, rfl, .inl ⟨rfl, _, SqL.of eO⟩, ?_⟩
          refine .inl ⟨_, .ref O, SqL.of hac, rfl, ?_⟩
          refine .inl ⟨_, SqL.of eO, ?_⟩
          refine ⟨p, _, _, rfl, I7.d, by omega, by rw [List.length_map]; omega, by rw [List.length_map]; omega, fun r2 H8 r20 r21 dc8 e8 => ?_⟩
          rw [List.length_map] at r21
          obtain ⟨q, rfl⟩ : ∃ q : Nat, r2 = (q : Int) := ⟨r2.toNat, by omega⟩
          have hq : q < (ms.map V.int).length := by rw [List.length_map]; omega
          obtain ⟨j, e1, e2, e3', _⟩ := atI_get (atI_nat (List.getElem?_eq_getElem hq))
          have I8 := I7.dice hS2p e8 dc8
          have eO8 : H8 O = some (.lst (ms.map V.int)) := (e8 O hOf.1).trans eO
          refine ⟨O, _, (q : Int), j, (ms.map V.int)[q], rfl, rfl, eO8, by omega, by omega, e1, e2, ?_⟩
          rw [List.length_map] at e3'
          exact ⟨_, _, _, rfl, (I8.mut (ms := ms.eraseIdx j) hOf eO8 (by rw [upd_same, erase_map]) (fun z => by
            have := congrArg List.length z
            rw [List.length_eraseIdx_of_lt e3'] at this
            simp at this
            omega) (by rw [List.length_eraseIdx_of_lt e3']; omega) (fun k hk => inO k (List.mem_of_mem_eraseIdx hk)) (Nat.le_refl _) fun b hb => upd_ne hb).up (Nat.le_refl _) (by omega)⟩
        · exact ⟨_, _, _, rfl, I7.up (by omega) (by omega)⟩
      · exact ⟨_, _, _, rfl, I7.up (by omega) (by omega)⟩
    rintro σ H8 ⟨o7, o8, o9, rfl, I8⟩
    -- way 2
    refine ⟨fun σ H' => ∃ o7 o8 o9 : Option V, σ = [some (.ref p), some (.ref G), some (.int n), some (.ref S2), some v0, some (.int way), some (.int place), o7, o8, o9] ∧ SI p S2 H n xs (M + 2) (m + 5) H', ?_, ?_⟩
    · refine ite2 (fun c => ?_) (fun c => ?_)
      · obtain ⟨a, I, O, rfl, ha, hac, hI, hOf, ms, eO, neO, leO, inO⟩ := I8.all v0 hv0m
        refine .inl ⟨_, .ref O, SqL.of hac, rfl, ?_⟩
        refine ⟨O, _, rfl, .inl (SqL.of eO), rfl, flat_ints _, ?_⟩
        refine ite2 (fun c2 => ?_) (fun c2 => ?_)
        · have hml : 0 < ms.length := List.length_pos_iff.mpr neO
          refine .inl ⟨_, .ref O, SqL.of hac, rfl, ?_⟩
          refine .inl ⟨_, SqL.of eO, ?_⟩
          refine ⟨p, _, _, rfl, I8.d, by omega, by rw [List.length_map]; omega, by rw [List.length_map]; omega, fun r2 H9 r20 r21 dc9 e9 => ?_⟩
          rw [List.length_map] at r21
          obtain ⟨q, rfl⟩ : ∃ q : Nat, r2 = (q : Int) := ⟨r2.toNat, by omega⟩
          have hq : q < (ms.map V.int).length := by rw [List.length_map]; omega
          obtain ⟨j, e1, e2, e3', _⟩ := atI_get (atI_nat (List.getElem?_eq_getElem hq))
          have I9 := I8.dice hS2p e9 dc9
          have eO9 : H9 O = some (.lst (ms.map V.int)) := (e9 O hOf.1).trans eO
          have hac9 : H9 a = some (.lst [.ref I, .ref O]) := (e9 a ha.1).trans hac
          refine .inl ⟨_, .ref O, SqL.of hac9, rfl, .inl ⟨rfl, _, SqL.of eO9⟩, ?_⟩
          refine ⟨O, _, (q : Int), j, (ms.map V.int)[q], rfl, rfl, eO9, by omega, by omega, e1, e2, ?_⟩
          rw [List.length_map] at e3'
          have haO : a ≠ O := fun z => by
            rw [z, eO9] at hac9
            exact ints_ne_refs (xs := [.ref I, .ref O]) (by simp) (fun v hv => by
              rcases List.mem_cons.mp hv with rfl | q
              · exact ⟨_, rfl⟩
              · exact ⟨_, List.mem_singleton.mp q⟩) (HO.lst.inj (Option.some.inj hac9))
          refine .inl ⟨_, .ref O, SqL.of (by rw [upd_ne haO]; exact hac9), rfl, ?_⟩
          refine ⟨O, _, rfl, upd_same, _, upd_same, by rw [List.length_eraseIdx_of_lt (by rw [List.length_map]; exact e3'), List.length_map]; omega, ?_⟩
          exact ⟨_, _, _, rfl, (I9.mut (ms := ms.eraseIdx j ++ [place]) hOf eO9 (by rw [upd_same, erase_map, List.map_append]; rfl) (by simp) (by rw [List.length_append, List.length_eraseIdx_of_lt e3']; simp; omega) (fun k hk => by
            rcases List.mem_append.mp hk with z | z
            · exact inO k (List.mem_of_mem_eraseIdx z)
            · rw [List.mem_singleton.mp z]; exact hpl) (by omega) fun b hb => by rw [upd_ne hb, upd_ne hb]).up (Nat.le_refl _) (by omega)⟩
        · exact ⟨_, _, _, rfl, I8.up (by omega) (by omega)⟩
      · exact ⟨_, _, _, rfl, I8.up (by omega) (by omega)⟩
    rintro σ H9 ⟨o7, o8, o9, rfl, I9⟩
    -- way 3
    refine ⟨fun σ H' => ∃ o7 o8 o9 : Option V, σ = [some (.ref p), some (.ref G), some (.int n), some (.ref S2), some v0, some (.int way), some (.int place), o7, o8, o9] ∧ SI p S2 H n xs (M + 45) (m + 5) H', ?_, ?_⟩
    · refine ite2 (fun c => ?_) (fun c => ?_)
      · refine ite2 (fun c2 => ?_) (fun c2 => ?_)
        · refine ⟨S2, rfl, ⟨_, SqL.of I9.S⟩, fun D hD => ?_⟩
          have hDp : D ≠ p := I9.d.ne hD
          refine lc_it (walk_list (xs := xs)) (fun t H' => ∃ c : List Int, H' D = some (.lst (c.map V.int)) ∧ c.length ≤ t ∧ ∀ b o, H9 b = some o → H' b = some o)
            ⟨[], upd_same, by simp, fun b o e => by rw [upd_ne (ne_of_none e hD)]; exact e⟩ (fun t H' _ ⟨_, _, _, kp⟩ => SqL.of (kp _ _ I9.S)) ?_ ?_
          · rintro t y Hx H10 ht ⟨c, hc, hcl, kp⟩ ⟨rfl, hy⟩
            obtain ⟨a, I, O, rfl, ha, hac, ⟨hIf, ns, eI, neI, leI, inI⟩, _⟩ := I9.all y (List.mem_of_getElem? hy)
            refine ⟨rfl, ?_⟩
            refine .inl ⟨_, .ref I, SqL.of (kp _ _ hac), rfl, ?_⟩
            refine ⟨I, _, rfl, .inl (SqL.of (kp _ _ eI)), rfl, flat_ints _, ?_⟩
            refine ite2 (fun c3 => ?_) (fun c3 => ?_)
            · refine ⟨_, hc, by rw [List.length_map, sizeLine_eq]; omega, c ++ [1], by rw [upd_same, List.map_append]; rfl, by simp; omega, fun b o e => ?_⟩
              rw [upd_ne (ne_of_none e hD)]
              exact kp _ _ e
            · exact ⟨c, hc, by omega, kp⟩
          rintro H10 ⟨c3, hc3, hcl3, kp3⟩
          refine ⟨by simp, fun e1 H11 s11 n11 l11 => ?_⟩
          have s911 : Same H9 H11 := Same.trans (fun b o e => kp3 b o e) s11
          refine ⟨.list (c3.map .int), .list [], .lst (SqL.of (s11 _ _ hc3)) (dp_ints _), .lst (SqL.of l11) .nil, ints_shaped _, by decide +kernel, ?_⟩
          have I11 := I9.same s911
          refine ite2 (fun c4 => ?_) (fun c4 => ?_)
          · -- the steps of the cluster
            obtain ⟨a0, I0', O0, ev0, ha0, hac0, ⟨hI0f, ns0, eI0, neI0, leI0, inI0⟩, _⟩ := I11.all v0 hv0m
            refine ⟨S2, rfl, ⟨_, SqL.of I11.S⟩, fun D5 hD5 => ?_⟩
            have hD5p : D5 ≠ p := I11.d.ne hD5
            refine lc_it (walk_list (xs := xs)) (fun t H' => ∃ c : List V, H' D5 = some (.lst c) ∧ (∀ v ∈ c, v ∈ xs) ∧ c.length ≤ t ∧ ∀ b o, H11 b = some o → H' b = some o)
              ⟨[], upd_same, (fun v h => nomatch h), by simp, fun b o e => by rw [upd_ne (ne_of_none e hD5)]; exact e⟩ (fun t H' _ ⟨_, _, _, _, kp⟩ => SqL.of (kp _ _ I11.S)) ?_ ?_
            · rintro t y Hx H12 ht ⟨c, hc, hcm, hcl, kp⟩ ⟨rfl, hy⟩
              obtain ⟨a, I, O, rfl, ha, hac, ⟨hIf, ns, eI, neI, leI, inI⟩, _⟩ := I11.all y (List.mem_of_getElem? hy)
              subst ev0
              refine ⟨rfl, ?_⟩
              refine .inl ⟨_, .ref I, SqL.of (kp _ _ hac), rfl, ?_⟩
              refine .inl ⟨_, .ref I0', SqL.of (kp _ _ hac0), rfl, ?_⟩
              refine ⟨.list (ns.map .int), .list (ns0.map .int), .lst (SqL.of (kp _ _ eI)) (dp_ints _), .lst (SqL.of (kp _ _ eI0)) (dp_ints _), ints_shaped _, ints_shaped _, ?_⟩
              refine ite2 (fun c3 => ?_) (fun c3 => ?_)
              · refine ⟨c, hc, by rw [sizeLine_eq]; omega, c ++ [.ref a], upd_same, fun v hv => ?_, by simp; omega, fun b o e => ?_⟩
                · rcases List.mem_append.mp hv with z | z
                  · exact hcm v z
                  · rw [List.mem_singleton.mp z]; exact List.mem_of_getElem? hy
                · rw [upd_ne (ne_of_none e hD5)]
                  exact kp _ _ e
              · exact ⟨c, hc, hcm, by omega, kp⟩
            rintro H12 ⟨c5, hc5, hcm5, hcl5, kp5⟩
            have s12 : Same H11 H12 := fun b o e => kp5 b o e
            have I12 := I11.same s12
            have hD50 : H D5 = none := I11.nx.free hD5p hD5
            refine ⟨D5, rfl, ⟨_, SqL.of hc5⟩, ?_⟩
            refine for_it (walk_list (xs := c5)) (fun i σ H' => ∃ o7 o8 o9 : Option V, σ = [some (.ref p), some (.ref G), some (.int n), some (.ref S2), some v0, some (.int way), some (.int place), o7, o8, o9] ∧ SI p S2 H n xs (M + 2 + i) (m + 5) H' ∧ H' D5 = some (.lst c5))
              ⟨_, _, _, rfl, I12.up (by omega) (by omega), hc5⟩ (fun i σ H' _ ⟨_, _, _, _, _, h⟩ => SqL.of h) ?_ ?_
            · rintro i y σ Hx H13 hi ⟨o7, o8, o9, rfl, I13, hc13⟩ ⟨rfl, hyy⟩
              obtain ⟨a, I, O, rfl, ha, hac, ⟨hIf, ns, eI, neI, leI, inI⟩, _⟩ := I13.all y (hcm5 y (List.mem_of_getElem? hyy))
              refine .inl ⟨_, .ref I, SqL.of hac, rfl, ?_⟩
              refine ⟨I, _, rfl, eI, _, eI, by rw [List.length_map]; omega, ?_⟩
              have hDI : D5 ≠ I := fun z => by
                rw [z, eI] at hc13
                refine ints_ne_refs (xs := c5) (fun q => by rw [q] at hyy; cases hyy) (fun v hv => ?_) (HO.lst.inj (Option.some.inj hc13))
                obtain ⟨x, _, _, e, _⟩ := I13.all v (hcm5 v hv)
                exact ⟨x, e⟩
              refine ⟨_, _, _, rfl, I13.mut (ms := ns ++ [place]) hIf eI (by rw [upd_same, List.map_append]; rfl) (by simp) (by simp; omega) (fun k hk => ?_) (by omega) fun b hb => upd_ne hb, by rw [upd_ne hDI]; exact hc13⟩
              rcases List.mem_append.mp hk with z | z
              · exact inI k z
              · rw [List.mem_singleton.mp z]; exact hpl
            · rintro σ H13 ⟨o7, o8, o9, rfl, I13, hc13⟩
              exact ⟨_, _, _, rfl, I13.up (by omega) (by omega)⟩
          · exact ⟨_, _, _, rfl, I11.up (by omega) (by omega)⟩
        · exact ⟨_, _, _, rfl, I9.up (by omega) (by omega)⟩
      · exact ⟨_, _, _, rfl, I9.up (by omega) (by omega)⟩
    rintro σ H10 ⟨o7, o8, o9, rfl, I10⟩
    refine ⟨by simp, fun G' H11 s11 n11 l11 => ?_⟩
    have I11 := I10.same s11
    exact k G' xs H11 I11.nx (I11.d.mono (by omega)) ⟨S2, I10.d.ne n11, hS2p, l11, I11.S, h2, by omega, fun v hv => (I11.all v hv).go (by omega) (Int.le_refl _) (fun _ q => q.1) fun b o _ e => e⟩ (by omega)

end
end K02

set_option Elab.async false
set_option linter.all false
set_option maxRecDepth 100000
set_option maxHeartbeats 4000000
/-! set of a long list of few ints. -/
namespace L2
open PySem PySem.Spec PyProof.Rows PySem.KX
section
variable {X : Cx}
theorem setR_few {w : World} {h : Heap} {a : Addr} {S : Int → Bool} {n b : Nat} (R : SetR w h a S n) (hb : ∀ k : Int, S k = true → 0 ≤ k ∧ k < (b : Int)) : n ≤ b := by
  obtain ⟨o, es, ep, t, ho, hex, hd, g, nd, hm, _, _, hn, _⟩ := R
  have hl : (es.toList.map keyOf).length = n := by rw [List.length_map, Array.length_toList]; exact hn
  rw [← hl]
  have q := nodup_le (m := (List.range b).map fun i : Nat => (i : Int)) nd fun k hk => by
    obtain ⟨h0, h1⟩ := hb k ((hm k).mpr hk)
    exact List.mem_map.mpr ⟨k.toNat, List.mem_range.mpr (by omega), by omega⟩
  simpa using q
def rSetLB (K : PySem.W.Frag) (w : World) : List V → Hp → VK → Prop := fun xs H Q => ∃ (t : Addr) (ns : List Int) (b : Nat), xs = [.ref t] ∧ SqL K H t (ns.map V.int) ∧ ns.length ≤ 4000 ∧ (∀ k ∈ ns, 0 ≤ k ∧ k < (b : Int)) ∧ ∀ (p : Addr) (c : Nat) (H' : Hp), Same H H' → H p = none → H' p = some (SetO w p (fun j => decide (j ∈ ns)) c) → c ≤ b → Q (.ref p) H'
theorem call_setLB (hc : X.calm = true) : CallR X (.type "set") (rSetLB X.K X.w) := by
  intro pins s σ H xs us Q I r h
  obtain ⟨t, ns, b, rfl, ht, hn, hin, q⟩ := h
  rw [Vals.ref1 r]
  obtain ⟨its, rv, pl, _⟩ := I.list ht
  have hi := ints_of_vals rv
  refine call_set_lstI ns (I.ok.hd hc) pl.isList (by simpa using hi) (by show ns.length + 1 < scanBound; unfold scanBound; omega) fun h' tk c R hcn k => ?_
  have hf : H s.heap.objs.size = none := I.hok.fresh (Nat.le_refl _)
  exact ⟨.ref s.heap.objs.size, upd H s.heap.objs.size (SetO X.w s.heap.objs.size (fun j => decide (j ∈ ns)) c), I.laid (t' := tk) k (Nat.le_refl _) (setO_new R), rfl, q _ c _ ((Same.refl _).new hf) hf upd_same (setR_few R fun k hk => hin k (of_decide_eq_true hk))⟩
end
end L2

set_option Elab.async false
set_option linter.all false
set_option maxRecDepth 100000
set_option maxHeartbeats 4000000
namespace K02
open PySem L2 PySem.KX StX
abbrev s_law_net : Stmt := top 32
abbrev N_nt : List Str := ["dice", "grown", "total", "steps", "order", "names", "rows", "name", "ins", "outs", "place"]
theorem sc_law_net : FnScope N_nt ["dice", "grown"] (defScope s_law_net) := ⟨rfl, rfl, rfl, by decide +kernel, rfl, by decide +kernel, by decide +kernel⟩
def ordF (os : List Int) (k : Int) : Int := (os[k.toNat]?).getD 0
theorem ordF_at {os : List Int} {n k : Int} (hl : (os.length : Int) = n) (ho : ∀ j ∈ os, 0 ≤ j ∧ j < n) (h0 : 0 ≤ k) (h1 : k < n) : atI (os.map V.int) k = some (.int (ordF os k)) ∧ 0 ≤ ordF os k ∧ ordF os k < n := by
  obtain ⟨j, rfl⟩ : ∃ j : Nat, k = (j : Int) := ⟨k.toNat, by omega⟩
  have hj : j < os.length := by omega
  have e : os[j]? = some os[j] := List.getElem?_eq_getElem hj
  have e2 : ordF os (j : Int) = os[j] := by
    unfold ordF
    rw [Int.toNat_natCast, e]
    rfl
  rw [e2]
  exact ⟨atI_nat (by rw [List.getElem?_map, e]; rfl), (ho _ (List.getElem_mem hj)).1, (ho _ (List.getElem_mem hj)).2⟩
section
variable {P : Program} {w : World} {K : PySem.W.Frag} {mg : Str → Option Value} {base : Heap}
def spNet (K : PySem.W.Frag) : Sp := fun vs H Q _ => ∃ (p G : Addr) (m : Int) (M : Nat) (n : Int) (xs : List V), vs = [.ref p, .ref G] ∧ Dc p m H ∧ m + 3000 < 2 ^ 30 ∧ GrA p M H G n xs ∧ M ≤ 4000 ∧ n ≤ 30 ∧ xs.length ≤ 40 ∧
  ∀ (rows : List RowN) (v : Addr) (ts : List V) (H' : Hp), GoodN n rows → Nxt p H H' → Dc p (m + 500) H' → Dq K (hide [p] H') (.ref v) (netOf n rows) → H' v = some (.tup ts) → Q (.ref v) H'
theorem ok_law_net {f : Addr} {fd : FuncData} (Fu : Fun K "_law_net" "_law_net" s_law_net f fd) (TX : TxtX mg) (TS : TxtS mg) (htup : mg "tuple" = none) (hzip : mg "zip" = none) (O_law_mixed : Own P w K mg base CX0 "_law_mixed" 2 ["dice", "items"] (spMixD K)) (O_law_words : Own P w K mg base CX0 "_law_words" 2 ["dice", "total"] spWords) : FnG P w K mg base CX0 3 f fd ["dice", "grown"] (spNet K) := by
  have nd := sc_law_net.nd
  refine okG Fu sc_law_net (fun vs H Q E h => ?_) (fun cdv A outer s H vs Q E hr h => ?_)
  · obtain ⟨_, _, _, _, _, _, rfl, _⟩ := h
    rfl
  · obtain ⟨p, G, m, M, n, xs, rfl, hp, hm, hG, hM, hn, hl0, k⟩ := h
    refine ⟨_, (pss_cons (ps_asg (av 1) (pg_unp rfl (pgs_cons (pg_name (i := 2) nd rfl (by first | exact Or.inl rfl | exact Or.inr rfl)) (pgs_cons (pg_name (i := 3) nd rfl (by first | exact Or.inl rfl | exact Or.inr rfl)) pgs_nil))))
      (pss_cons (ps_set (i := 4) nd rfl (by first | exact Or.inl rfl | exact Or.inr rfl) (pe_op op_addS (pe_lstS (pa_cons pe_int (pa_cons pe_int pa_nil))) (pe_lc (own := [("place", 10)]) (by rfl) nd (pi_list (pe_own O_law_mixed hr (pa_cons (av 0) (pa_cons (pe_listRg rfl (by rfl) TX.list (prg_1 (by rfl) TX.range (pe_op op_subA (av 2) pe_int))) pa_nil)) (by decide))) (blkOk_by (N := N_nt) (sc := defScope s_law_net) (by decide +kernel)) (fun _ _ _ _ _ => (pg_name (i := 10) nd rfl (by first | exact Or.inl rfl | exact Or.inr rfl))) (fun _ _ _ _ _ => pts_nil) (fun _ _ _ _ _ => (show PE _ _ (tOp (rAddA K) (aVar 10) (tC (.int 2))) from pe_op op_addA (av 10) pe_int)))))
      (pss_cons (ps_set (i := 5) nd rfl (by first | exact Or.inl rfl | exact Or.inr rfl) (pe_own O_law_words hr (pa_cons (av 0) (pa_cons (pe_callB call_lenA (by rfl) TX.len PySem.boot_len (pa_cons (av 3) pa_nil)) pa_nil)) (by decide)))
      (pss_cons (ps_set (i := 6) nd rfl (by first | exact Or.inl rfl | exact Or.inr rfl) (pe_lstS pa_nil))
      (pss_cons (ps_for PassesOwn.never rfl (pi_zip (by rfl) hzip (pa_cons (av 5) (pa_cons (av 3) pa_nil))) (pg_tup rfl (pgs_cons (pg_name (i := 7) nd rfl (by first | exact Or.inl rfl | exact Or.inr rfl)) (pgs_cons (pg_unp rfl (pgs_cons (pg_name (i := 8) nd rfl (by first | exact Or.inl rfl | exact Or.inr rfl)) (pgs_cons (pg_name (i := 9) nd rfl (by first | exact Or.inl rfl | exact Or.inr rfl)) pgs_nil))) pgs_nil))) (pss_cons (ps_par (i := 8) (j := 9) (by rfl) nd rfl rfl (by decide) rfl rfl (pa_cons (pe_lc (own := [("place", 10)]) (by rfl) nd (pi_list (av 8)) (blkOk_by (N := N_nt) (sc := defScope s_law_net) (by decide +kernel)) (fun _ _ _ _ _ => (pg_name (i := 10) nd rfl (by first | exact Or.inl rfl | exact Or.inr rfl))) (fun _ _ _ _ _ => pts_nil) (fun _ _ _ _ _ => (show PE _ _ (tOp (rIxA K) (aVar 4) (aVar 10)) from pe_ixA (av 4) (av 10)))) (pa_cons (pe_lc (own := [("place", 10)]) (by rfl) nd (pi_list (av 9)) (blkOk_by (N := N_nt) (sc := defScope s_law_net) (by decide +kernel)) (fun _ _ _ _ _ => (pg_name (i := 10) nd rfl (by first | exact Or.inl rfl | exact Or.inr rfl))) (fun _ _ _ _ _ => pts_nil) (fun _ _ _ _ _ => (show PE _ _ (tOp (rIxA K) (aVar 4) (aVar 10)) from pe_ixA (av 4) (av 10)))) pa_nil)) (by rfl))
      (pss_one (ps_expr (pe_appS (av 6) (pe_tupS (pa_cons (av 7) (pa_cons (pe_callTy call_tupLS (by rfl) htup (by decide +kernel) (pa_cons (pe_callB (call_sortTI rfl) (by rfl) TS.sorted (by decide +kernel) (pa_cons (pe_callTy (call_setLB rfl) (by rfl) TS.set (by decide +kernel) (pa_cons (av 8) pa_nil)) pa_nil)) pa_nil)) (pa_cons (pe_callTy call_tupLS (by rfl) htup (by decide +kernel) (pa_cons (pe_callB (call_sortTI rfl) (by rfl) TS.sorted (by decide +kernel) (pa_cons (pe_callTy (call_setLB rfl) (by rfl) TS.set (by decide +kernel) (pa_cons (av 9) pa_nil)) pa_nil)) pa_nil)) pa_nil)))))))))
      (pss_one (ps_ret (pe_tupS (pa_cons (av 2) (pa_cons (pe_callTy call_tupLS (by rfl) htup (by decide +kernel) (pa_cons (pe_callB (call_sortedQ hr.units64) (by rfl) TS.sorted (by decide +kernel) (pa_cons (av 6) pa_nil)) pa_nil)) pa_nil)))))))))), ?_⟩
    obtain ⟨St, hGp, hSp, eG, eS, h2, h1, hv⟩ := hG
    refine ⟨G, _, rfl, SqL.of eG, rfl, _, _, rfl, _, _, rfl, rfl, ?_⟩
    refine ⟨by simp, fun q1 H1 s1 n1 l1 => ?_⟩
    refine ⟨n - 2, rfl, RgOk.of_le (by omega) (by omega) (by omega) (by omega), fun q2 hq2 => ?_⟩
    have s2 : Same H1 (upd H1 q2 (.lst (rgV 0 (n - 2)))) := (Same.refl _).new hq2
    have l2 : upd H1 q2 (.lst (rgV 0 (n - 2))) q2 = some (.lst (rgV 0 (n - 2))) := upd_same
    generalize upd H1 q2 (.lst (rgV 0 (n - 2))) = H2 at s2 l2 ⊢
    have dc2 := (hp.same s1).same s2
    refine ⟨p, q2, m, _, rfl, dc2, by omega, .inl (SqL.of l2), by rw [rgV_length]; omega, fun ys q3 H3 hperm nx3 dc3 n3 l3 => ?_⟩
    have hyl : ys.length = (n - 2 - 0).toNat := by rw [hperm.length_eq, rgV_length]
    rw [rgV_length] at dc3
    have hys : ∀ v ∈ ys, ∃ k : Int, v = .int k ∧ 0 ≤ k ∧ k < n - 2 := fun v hv => by
      have hm := hperm.mem_iff.mp hv
      unfold rgV at hm
      obtain ⟨t, ht, rfl⟩ := List.mem_map.mp hm
      have := List.mem_range.mp ht
      exact ⟨_, rfl, by omega, by omega⟩
    have hq1p : q1 ≠ p := hp.ne n1
    have l1' : H3 q1 = some (.lst [.int 0, .int 1]) := nx3.get hq1p (s2 _ _ l1)
    refine ⟨q3, rfl, ⟨_, SqL.of l3⟩, fun D hD => ?_⟩
    refine lc_it (walk_list (xs := ys)) (fun t H' => ∃ c : List Int, H' D = some (.lst (c.map V.int)) ∧ c.length = t ∧ (∀ k ∈ c, 0 ≤ k ∧ k < n) ∧ ∀ b o, H3 b = some o → H' b = some o)
      ⟨[], upd_same, rfl, (fun k h => nomatch h), fun b o e => by rw [upd_ne (ne_of_none e hD)]; exact e⟩ (fun t H' _ ⟨_, _, _, _, kp⟩ => SqL.of (kp _ _ l3)) ?_ ?_
    · rintro t y Hx H4 ht ⟨c, hc, hcl, hcn, kp⟩ ⟨rfl, hy⟩
      obtain ⟨j, rfl, hj0, hj1⟩ := hys y (List.mem_of_getElem? hy)
      refine ⟨rfl, _, hc, by rw [List.length_map, sizeLine_eq]; omega, c ++ [j + 2], by rw [upd_same, List.map_append]; rfl, by simp [hcl], fun k hk => ?_, fun b o e => ?_⟩
      · rcases List.mem_append.mp hk with z | z
        · exact hcn k z
        · rw [List.mem_singleton.mp z]; omega
      · rw [upd_ne (ne_of_none e hD)]
        exact kp _ _ e
    rintro H4 ⟨c, hc, hcl, hcn, kp4⟩
    have s4 : Same H3 H4 := fun b o e => kp4 b o e
    refine .inl ⟨[.int 0, .int 1], c.map V.int, s4 _ _ l1', hc, by simp; omega, fun q4 H5 s5 n5 l5 => ?_⟩
    have hos : ∀ j ∈ (0 : Int) :: 1 :: c, 0 ≤ j ∧ j < n := fun j hj => by
      rcases List.mem_cons.mp hj with rfl | z
      · omega
      · rcases List.mem_cons.mp z with rfl | z
        · omega
        · exact hcn j z
    have holn : (((0 : Int) :: 1 :: c).length : Int) = n := by simp [hcl]; omega
    have l5' : H5 q4 = some (.lst (((0 : Int) :: 1 :: c).map V.int)) := l5
    generalize (0 : Int) :: 1 :: c = os at hos holn l5'
    clear l5
    have nx5 : Nxt p H H5 := ((((Nxt.of s1).trans (Nxt.of s2)).trans nx3).trans (Nxt.of s4)).trans (Nxt.of s5)
    have dc5 : Dc p (m + 40) H5 := ((dc3.same s4).same s5).mono (by omega)
    have hq4p : q4 ≠ p := (dc3.same s4).ne n5
    -- names
    refine .inl ⟨xs, SqL.of (nx5.get hSp eS), ?_⟩
    refine ⟨p, _, xs.length, rfl, dc5, hl0, by omega, fun fs W H6 hfl hfn hfw nx6 dc6 nW lW => ?_⟩
    have nx06 := nx5.trans nx6
    have hWp : W ≠ p := dc5.ne nW
    have l6 : H6 q4 = some (.lst (os.map V.int)) := nx6.get hq4p l5'
    refine ⟨by simp, fun R H7 s7 nR lR => ?_⟩
    have hRp : R ≠ p := dc6.ne nR
    have nx07 := nx06.trans (Nxt.of s7)
    have nRH : H R = none := nx06.free hRp nR
    have l7 := s7 _ _ l6
    have lW7 := s7 _ _ lW
    have eS7 := nx07.get hSp eS
    have ne7 : ∀ {b : Addr} {o : HO}, H6 b = some o → b ≠ R := fun {b o} e z => by rw [z, nR] at e; cases e
    have hv7 : ∀ v ∈ xs, StA (fun b => b ≠ p) M n H7 v := fun v h => (hv v h).go (Nat.le_refl _) (Int.le_refl _) (fun _ q => q) fun b o hb e => nx07.get hb e
    have hvR : ∀ v ∈ xs, StA (fun b => b ≠ p ∧ b ≠ R) M n H7 v := fun v h => by
      have go : ∀ {b : Addr} {o : HO}, b ≠ p → H b = some o → b ≠ R := fun {b o} _ e z => by rw [z, nRH] at e; cases e
      obtain ⟨a, i, o, e, ha, hac, ⟨hi, ns, eI, r1⟩, ho, ms, eO, r2⟩ := hv v h
      exact ⟨a, i, o, e, ⟨ha, go ha hac⟩, nx07.get ha hac, ⟨⟨hi, go hi eI⟩, ns, nx07.get hi eI, r1⟩, ⟨ho, go ho eO⟩, ms, nx07.get ho eO, r2⟩
    refine ⟨W, St, fs.map V.str, xs, rfl, SqL.of lW7, SqL.of eS7, ?_⟩
    refine for_it (walk_zip (n := xs.length) (by simp [hfl])) (fun i σ H' => ∃ (raw : List RowN) (acc : List V) (o7 o8 o9 o10 : Option V), σ = [some (.ref p), some (.ref G), some (.int n), some (.ref St), some (.ref q4), some (.ref W), some (.ref R), o7, o8, o9, o10] ∧ H' R = some (.lst acc) ∧ DqAll K (hide [R, p] H') acc (raw.map rowD) ∧ raw.map (·.1) = fs.take i ∧ (∀ r ∈ raw, GoodR n r) ∧ (∀ b o, b ≠ R → H7 b = some o → H' b = some o))
      ⟨[], [], _, _, _, _, rfl, lR, .nil, by simp, (fun r hr => nomatch hr), fun b o _ e => e⟩ (fun i σ H' _ ⟨_, _, _, _, _, _, _, _, _, _, _, kp⟩ => ⟨SqL.of (kp W _ (ne7 lW) lW7), SqL.of (kp St _ (ne7 (nx06.get hSp eS)) eS7)⟩) ?_ ?_
    · rintro i y σ H8 H9' hi ⟨raw, acc, o7, o8, o9, o10, rfl, hR8, hacc, hnm, hgood, kp⟩ ⟨T, x1, y1, rfl, nT, rfl, e1, hxx⟩
      obtain ⟨x, hx, rfl⟩ : ∃ x, fs[i]? = some x ∧ x1 = .str x := by
        replace e1 : (fs.map V.str)[i]? = some x1 := e1
        rw [List.getElem?_map] at e1
        cases e : fs[i]? with
        | none => rw [e] at e1; cases e1
        | some x => rw [e] at e1; exact ⟨x, rfl, (Option.some.inj e1).symm⟩
      have sT : Same H8 (upd H8 T (.tup [.str x, y1])) := (Same.refl _).new nT
      have lT : upd H8 T (.tup [.str x, y1]) T = some (.tup [.str x, y1]) := upd_same
      generalize upd H8 T (.tup [.str x, y1]) = H9 at sT lT ⊢
      obtain ⟨a, I, O, rfl, ha, hac, ⟨hI, ns, eI, neI, leI, inI⟩, hO, ms, eO, neO, leO, inO⟩ := hvR y1 (List.mem_of_getElem? hxx)
      have kp9 : ∀ b o, b ≠ R → H7 b = some o → H9 b = some o := fun b o hb e => sT _ _ (kp b o hb e)
      refine ⟨T, _, rfl, SqT.of lT, rfl, _, _, rfl, _, _, rfl, a, _, rfl, SqL.of (kp9 _ _ ha.2 hac), rfl, _, _, rfl, _, _, rfl, rfl, rfl, ?_⟩
      have hord9 : H9 q4 = some (.lst (os.map V.int)) := kp9 _ _ (ne7 l6) l7
      have eI9 := kp9 _ _ hI.2 eI
      have eO9 := kp9 _ _ hO.2 eO
      refine ⟨I, rfl, ⟨_, SqL.of eI9⟩, fun D1 hD1 => ?_⟩
      refine lc_it (walk_list (xs := ns.map V.int)) (fun t H' => H' D1 = some (.lst (((ns.take t).map (ordF os)).map V.int)) ∧ ∀ b o, H9 b = some o → H' b = some o)
        ⟨upd_same, fun b o e => by rw [upd_ne (ne_of_none e hD1)]; exact e⟩ (fun t H' _ ⟨_, kp⟩ => SqL.of (kp _ _ eI9)) ?_ ?_
      · rintro t z Hx H10 ht ⟨hD, kp10⟩ ⟨rfl, hz⟩
        rw [List.getElem?_map] at hz
        cases q2 : ns[t]? with
        | none => rw [q2] at hz; cases hz
        | some z' =>
          rw [q2] at hz
          cases hz
          rw [List.length_map] at ht
          obtain ⟨b0, b1⟩ := inI z' (List.mem_of_getElem? q2)
          obtain ⟨o1, o2, o3⟩ := ordF_at holn hos b0 b1
          refine ⟨rfl, .inl ⟨_, _, SqL.of (kp10 _ _ hord9), o1, ?_⟩⟩
          refine ⟨_, hD, by rw [List.length_map, List.length_map, List.length_take, sizeLine_eq]; omega, by rw [upd_same, List.take_add_one, q2, List.map_append, List.map_append]; rfl, fun b o e => ?_⟩
          rw [upd_ne (ne_of_none e hD1)]
          exact kp10 b o e
      rintro H10 ⟨hD1', kp10⟩
      rw [List.length_map, List.take_length] at hD1'
      have s10 : Same H9 H10 := fun b o e => kp10 b o e
      refine ⟨O, rfl, ⟨_, SqL.of (s10 _ _ eO9)⟩, fun D2 hD2 => ?_⟩
      refine lc_it (walk_list (xs := ms.map V.int)) (fun t H' => H' D2 = some (.lst (((ms.take t).map (ordF os)).map V.int)) ∧ ∀ b o, H10 b = some o → H' b = some o)
        ⟨upd_same, fun b o e => by rw [upd_ne (ne_of_none e hD2)]; exact e⟩ (fun t H' _ ⟨_, kp⟩ => SqL.of (kp _ _ (s10 _ _ eO9))) ?_ ?_
      · rintro t z Hx H11 ht ⟨hD, kp11⟩ ⟨rfl, hz⟩
        rw [List.getElem?_map] at hz
        cases q2 : ms[t]? with
        | none => rw [q2] at hz; cases hz
        | some z' =>
          rw [q2] at hz
          cases hz
          rw [List.length_map] at ht
          obtain ⟨b0, b1⟩ := inO z' (List.mem_of_getElem? q2)
          obtain ⟨o1, o2, o3⟩ := ordF_at holn hos b0 b1
          refine ⟨rfl, .inl ⟨_, _, SqL.of (kp11 _ _ (s10 _ _ hord9)), o1, ?_⟩⟩
          refine ⟨_, hD, by rw [List.length_map, List.length_map, List.length_take, sizeLine_eq]; omega, by rw [upd_same, List.take_add_one, q2, List.map_append, List.map_append]; rfl, fun b o e => ?_⟩
          rw [upd_ne (ne_of_none e hD2)]
          exact kp11 b o e
      rintro H11 ⟨hD2', kp11⟩
      rw [List.length_map, List.take_length] at hD2'
      have s11 : Same H10 H11 := fun b o e => kp11 b o e
      have s911 : Same H9 H11 := s10.trans s11
      have hD1'' := s11 _ _ hD1'
      refine ⟨_, _, rfl, ?_⟩
      have hR9 : H9 R = some (.lst acc) := sT _ _ hR8
      have hR11 := s911 _ _ hR9
      refine ⟨R, acc, rfl, hR11, ?_⟩
      have inI' : ∀ k ∈ ns.map (ordF os), 0 ≤ k ∧ k < n := fun k hk => by
        obtain ⟨j, hj, rfl⟩ := List.mem_map.mp hk
        exact (ordF_at holn hos (inI j hj).1 (inI j hj).2).2
      have inO' : ∀ k ∈ ms.map (ordF os), 0 ≤ k ∧ k < n := fun k hk => by
        obtain ⟨j, hj, rfl⟩ := List.mem_map.mp hk
        exact (ordF_at holn hos (inO j hj).1 (inO j hj).2).2
      have nI' : ns.map (ordF os) ≠ [] := fun z => neI (List.map_eq_nil_iff.mp z)
      have nO' : ms.map (ordF os) ≠ [] := fun z => neO (List.map_eq_nil_iff.mp z)
      have lI' : (ns.map (ordF os)).length ≤ 4000 := by rw [List.length_map]; omega
      have lO' : (ms.map (ordF os)).length ≤ 4000 := by rw [List.length_map]; omega
      generalize ns.map (ordF os) = ns' at inI' nI' lI' hD1''
      generalize ms.map (ordF os) = ms' at inO' nO' lO' hD2'
      have en : ((n.toNat : Nat) : Int) = n := by omega
      have hp8 : ∀ {Hx : Hp}, Same H9 Hx → Hx p ≠ none := fun {Hx} s z => by
        obtain ⟨g, u, v, e, _⟩ := dc6
        have := s _ _ (kp9 _ _ (Ne.symm hRp) (s7 _ _ e))
        rw [z] at this
        cases this
      have off : ∀ {Hx : Hp} {b : Addr}, Same H9 Hx → Hx b = none → b ≠ p ∧ b ≠ R := fun {Hx b} s e => ⟨fun z => hp8 s (z ▸ e), fun z => by
        rw [z, s _ _ hR9] at e
        cases e⟩
      refine ⟨D1, ns', n.toNat, rfl, SqL.of hD1'', lI', fun k hk => by rw [en]; exact inI' k hk, fun p12 c12 H12 s12 n12 e12 hc12 => ?_⟩
      refine ⟨p12, _, c12, rfl, e12, by omega, fun ms0 p13 H13 asc0 mem0 len0 s13 n13 l13 => ?_⟩
      refine ⟨p13, _, rfl, SqL.of l13, fun p14 H14 s14 n14 l14 => ?_⟩
      have s1114 := (s12.trans s13).trans s14
      refine ⟨D2, ms', n.toNat, rfl, SqL.of (s1114 _ _ hD2'), lO', fun k hk => by rw [en]; exact inO' k hk, fun p15 c15 H15 s15 n15 e15 hc15 => ?_⟩
      refine ⟨p15, _, c15, rfl, e15, by omega, fun ms1 p16 H16 asc1 mem1 len1 s16 n16 l16 => ?_⟩
      refine ⟨p16, _, rfl, SqL.of l16, fun p17 H17 s17 n17 l17 => ?_⟩
      refine ⟨by simp, fun p18 H18 s18 n18 l18 => ?_⟩
      have s1417 := (s15.trans s16).trans s17
      have s1118 := (s1114.trans s1417).trans s18
      have s918 := s911.trans s1118
      have hal := hacc.length
      have hrl : raw.length ≤ i := by
        have := congrArg List.length hnm
        simp only [List.length_map, List.length_take] at this
        omega
      rw [List.length_map] at hal
      refine ⟨acc, s918 _ _ hR9, by omega, ?_⟩
      have f14 := off (s911.trans (s12.trans s13)) n14
      have f17 := off (s911.trans (s1114.trans (s15.trans s16))) n17
      have f18 := off (s911.trans (s1114.trans s1417)) n18
      have hid : ∀ {H' : Hp} {b : Addr} {o : HO}, b ≠ p ∧ b ≠ R → H' b = some o → hide [R, p] H' b = some o := fun {H' b o} hb e => by
        rw [hide_in (fun z => by
          rcases List.mem_cons.mp z with y | y
          · exact hb.2 y
          · exact hb.1 (List.mem_singleton.mp y))]
        exact e
      have hrow : Dq K (hide [R, p] H18) (.ref p18) (rowD (x, ms0, ms1)) := row_dq (hid f18 l18) (hid f14 (s18 _ _ (s1417 _ _ l14))) (hid f17 (s18 _ _ l17))
      have s2 : Same (hide [R, p] H8) (hide [R, p] H18) := fun b o e => by
        obtain ⟨e1, e2⟩ := hide_of e
        exact hid ⟨fun z => e2 (by rw [z]; simp), fun z => e2 (by rw [z]; simp)⟩ ((sT.trans s918) _ _ e1)
      have ne0 : ms0 ≠ [] := fun z => by
        subst z
        obtain ⟨j, hj⟩ := List.exists_mem_of_ne_nil _ nI'
        exact nomatch (mem0 j).mpr (decide_eq_true hj)
      have g0 : GoodI n ms0 := ⟨ne0, asc0, fun k hk => inI' k (of_decide_eq_true ((mem0 k).mp hk))⟩
      have ne1 : ms1 ≠ [] := fun z => by
        subst z
        obtain ⟨j, hj⟩ := List.exists_mem_of_ne_nil _ nO'
        exact nomatch (mem1 j).mpr (decide_eq_true hj)
      have g1 : GoodI n ms1 := ⟨ne1, asc1, fun k hk => inO' k (of_decide_eq_true ((mem1 k).mp hk))⟩
      refine ⟨raw ++ [(x, ms0, ms1)], acc ++ [.ref p18], _, _, _, _, rfl, upd_same, ?_, ?_, ?_, ?_⟩
      · rw [hide_upd, List.map_append]
        exact dqAll_snoc (DqAll.same s2 _ _ hacc) hrow
      · rw [List.map_append, hnm, List.take_add_one, hx]
        rfl
      · intro r hr
        rcases List.mem_append.mp hr with z | z
        · exact hgood r z
        · rw [List.mem_singleton.mp z]
          exact ⟨hfw x (List.mem_of_getElem? hx), g0, g1⟩
      · intro b o b1 e
        rw [upd_ne b1]
        exact s918 _ _ (kp9 b o b1 e)
    · rintro σ H8 ⟨raw, acc, o7, o8, o9, o10, rfl, hR8, hacc, hnm, hgood, kp⟩
      rw [← hfl, List.take_length] at hnm
      have hlr : raw.length = xs.length := by
        have := congrArg List.length hnm
        simp only [List.length_map] at this
        omega
      have nd' : (raw.map (·.1)).Nodup := by rw [hnm]; exact hfn
      obtain ⟨rows, pm, asc, es⟩ := sort_rows nd'
      have hacc8 : DqAll K H8 acc (raw.map rowD) := DqAll.same hide_sub _ _ hacc
      have hmem : ∀ d ∈ raw.map rowD, ∃ r ∈ raw, d = rowD r := fun d hd => by
        obtain ⟨r, hr, e⟩ := List.mem_map.mp hd
        exact ⟨r, hr, e.symm⟩
      have dc8 : Dc p (m + 440) H8 := by
        obtain ⟨g, u, v, e, q1, q2, q3, q4, q5⟩ := dc6
        exact ⟨g, u, v, kp _ _ (Ne.symm hRp) (s7 _ _ e), q1, q2, q3, q4, by omega⟩
      refine ⟨R, acc, raw.map rowD, rfl, SqL.of hR8, hacc8, fun d hd d' hd' => ?_, .inl fun d hd => ?_, by simp; omega, fun d hd => ?_, fun p9 H9 s9 n9 l9 => ?_⟩
      · obtain ⟨r, _, rfl⟩ := hmem d hd
        obtain ⟨r', _, rfl⟩ := hmem d' hd'
        exact alike_r r r'
      · obtain ⟨r, _, rfl⟩ := hmem d hd
        exact ⟨_, _, rfl⟩
      · obtain ⟨r, _, rfl⟩ := hmem d hd
        exact depth_row _ _ _
      · refine ⟨p9, _, rfl, SqL.of l9, fun p10 H10 s10 n10 l10 => ?_⟩
        refine ⟨by simp, fun p11 H11 s11 n11 l11 => ?_⟩
        have hn10 : p10 ≠ p := (dc8.same s9).ne n10
        have hn11 : p11 ≠ p := (dc8.same (s9.trans s10)).ne n11
        have hid : ∀ {H' : Hp} {b : Addr} {o : HO}, b ≠ p → H' b = some o → hide [p] H' b = some o := fun {H' b o} hb e => by
          rw [hide_in (fun z => hb (List.mem_singleton.mp z))]
          exact e
        have s811 := (s9.trans s10).trans s11
        have s2 : Same (hide [R, p] H8) (hide [p] H11) := fun b o e => by
          obtain ⟨e1, e2⟩ := hide_of e
          exact hid (fun z => e2 (by rw [z]; simp)) (s811 _ _ e1)
        have hdq := sortQ_dq (DqAll.same s2 _ _ hacc)
        rw [es] at hdq
        refine k rows p11 _ H11 ⟨h2, hn, by rw [pm.length_eq]; omega, by rw [pm.length_eq]; omega, fun r hr => hgood r (pm.mem_iff.mp hr), asc⟩ ?_ ((dc8.same s811).mono (by omega)) ?_ l11
        · refine (nxt_of fun b o hb e => ?_ : Nxt p H H8).trans (Nxt.of s811)
          have hbR : b ≠ R := ne_of_none e nRH
          exact kp b o hbR (nx07.get hb e)
        · exact .tup (SqT.of (hid hn11 l11)) (.cons (.int _) (.cons (.tup (SqT.of (hid hn10 (s11 _ _ l10))) hdq) .nil))

end
end K02

set_option Elab.async false
set_option linter.all false
set_option maxRecDepth 100000
set_option maxHeartbeats 4000000
namespace K02
open PySem L2 PySem.KX StX
/-! rows as data -/
def rowT (r : RowK) : PyData := .tuple (r.map kD)
theorem start_ok {n : Int} {rows : List RowN} (hg : GoodN n rows) : ∀ r ∈ allL n rows, ∀ k ∈ r, okK k = true := fun r hr => by
  have two : ∀ {x : Str} {k0 : Key} {rs : RowK}, okK k0 = true → rs = [k0, .inr x] → WordS x → ∀ k ∈ rs, okK k = true := fun {x k0 rs} h e hw k hk => by
    subst e
    rcases List.mem_cons.mp hk with rfl | z
    · exact h
    · rw [List.mem_singleton.mp z]
      exact word_ok hw
  unfold allL at hr
  simp only [List.mem_append] at hr
  rcases hr with ((h | h) | h) | h | h
  · obtain ⟨q, hq, rfl⟩ := List.mem_map.mp h
    exact two (by decide +kernel) rfl (hg.row q (List.mem_filter.mp hq).1).w
  · obtain ⟨q, hq, rfl⟩ := List.mem_map.mp h
    exact two (by decide +kernel) rfl (hg.row q (List.mem_filter.mp hq).1).w
  · obtain ⟨i, _, hi⟩ := List.mem_flatMap.mp h
    unfold choicesAt at hi
    split at hi
    · rename_i r0 e0
      obtain ⟨q, hq, rfl⟩ := List.mem_map.mp hi
      have h0 := word_ok (hg.row r0 (List.mem_of_getElem? e0)).w
      have h1 := word_ok (hg.row q (List.mem_of_mem_drop (List.mem_filter.mp hq).1)).w
      intro k hk
      unfold dChoice at hk
      rcases List.mem_cons.mp hk with rfl | z
      · decide +kernel
      · rcases List.mem_cons.mp z with rfl | z
        · exact h0
        · rw [List.mem_singleton.mp z]
          exact h1
    · exact absurd hi List.not_mem_nil
  · obtain ⟨q, hq, rfl⟩ := List.mem_map.mp h
    intro k hk
    unfold dPlace at hk
    rcases List.mem_cons.mp hk with rfl | z
    · decide +kernel
    · rw [List.mem_singleton.mp z]
      rfl
  · obtain ⟨q, hq, rfl⟩ := List.mem_map.mp h
    exact two (by decide +kernel) rfl (hg.row q (List.mem_filter.mp hq).1).w
theorem defs_ok {n : Int} {rows : List RowN} (hg : GoodN n rows) : ∀ r ∈ defsL n rows, ∀ k ∈ r, okK k = true := fun r hr => start_ok hg r ((sortRows_perm _).mem_iff.mp hr)
theorem rows_dp {K : PySem.W.Frag} {H : Hp} : ∀ {ys : List V} {rs : List RowK}, RowsAt H ys rs → DpAll K H ys (rs.map rowT)
  | _, _, .nil => .nil
  | _, _, .cons h t => by
    obtain ⟨a, rfl, ha⟩ := h
    exact .cons (.tup (SqT.of ha) (keys_dp _)) (rows_dp t)
theorem rows_lay : ∀ {rs : List RowK}, (∀ r ∈ rs, ∀ k ∈ r, okK k = true) → PyData.canLayAll0 (rs.map rowT) = true
  | [], _ => by simp [PyData.canLayAll0]
  | r :: rs, h => by
    have h1 := keys_lay r (h r List.mem_cons_self)
    have h2 := rows_lay (rs := rs) fun q hq => h q (List.mem_cons_of_mem _ hq)
    simp only [List.map_cons, PyData.canLayAll0, rowT, PyData.canLay0, h1, Bool.true_and]
    exact h2
theorem rows_depth : ∀ rs : List RowK, PyData.depthAll (rs.map rowT) ≤ 1
  | [] => by simp [PyData.depthAll]
  | r :: rs => by
    have := rows_depth rs
    simp only [List.map_cons, PyData.depthAll, rowT, PyData.depth, depth_keys]
    have h2 : PyData.depthAll (rs.map rowT) ≤ 1 := this
    unfold rowT at h2
    omega
theorem rows_shapedT {rs : List RowK} (h : ∀ r ∈ rs, ∀ k ∈ r, okK k = true) : SeqAt.shaped (.tuple (rs.map rowT)) = true := by
  unfold SeqAt.shaped
  rw [Bool.and_eq_true]
  refine ⟨by simpa [PyData.canLay0] using rows_lay h, decide_eq_true ?_⟩
  simp only [PyData.depth]
  have := rows_depth rs
  omega
theorem eqv_nilT {ds : List PyData} : PyData.eqv (.tuple ds) (.tuple []) = decide (ds = []) := by
  cases ds <;> rfl
abbrev s_law_any_workflow : Stmt := top 36
abbrev N_aw : List Str := ["dice", "turns", "grown", "other", "turn", "net"]
theorem sc_law_any_workflow : FnScope N_aw ["dice", "turns"] (defScope s_law_any_workflow) := ⟨rfl, rfl, rfl, by decide +kernel, rfl, by decide +kernel, by decide +kernel⟩
section
variable {P : Program} {w : World} {K : PySem.W.Frag} {mg : Str → Option Value} {base : Heap}
def spAw (K : PySem.W.Frag) : Sp := fun vs H Q _ => ∃ (p : Addr) (m : Int) (t : Nat), vs = [.ref p, .int t] ∧ Dc p m H ∧ m + 5000 < 2 ^ 30 ∧ t ≤ 8 ∧
  ∀ (n : Int) (rows : List RowN) (v : Addr) (ts : List V) (H' : Hp), GoodN n rows → Nxt p H H' → Dc p (m + 1500) H' → Dq K (hide [p] H') (.ref v) (netOf n rows) → H' v = some (.tup ts) → Q (.ref v) H'
theorem ok_law_any_workflow {f : Addr} {fd : FuncData} (Fu : Fun K "_law_any_workflow" "_law_any_workflow" s_law_any_workflow f fd) (hrange : mg "range" = none) (O_law_roll : Own P w K mg base CX0 "_law_roll" 1 ["dice", "total"] spRollD) (O_law_grown : Own P w K mg base CX0 "_law_grown" 3 ["dice", "turns"] spGrown)
    (O_law_fitting : Own P w K mg base CX0 "_law_fitting" 1 ["grown"] spFit) (O_law_spoilt : Own P w K mg base CX0 "_law_spoilt" 3 ["dice", "grown"] spSpoilt) (O_law_net : Own P w K mg base CX0 "_law_net" 3 ["dice", "grown"] (spNet K)) (O_law_defects : Own P w K mg base CX0 "_law_defects" 2 ["net"] (spLdef K)) : FnG P w K mg base CX0 4 f fd ["dice", "turns"] (spAw K) := by
  have nd := sc_law_any_workflow.nd
  refine okG Fu sc_law_any_workflow (fun vs H Q E h => ?_) (fun cdv A outer s H vs Q E hr h => ?_)
  · obtain ⟨_, _, _, rfl, _⟩ := h
    rfl
  · obtain ⟨p, m, t, rfl, hp, hm, ht, k⟩ := h
    refine ⟨_, (pss_cons (ps_set (i := 2) nd rfl (Or.inl rfl) (pe_own O_law_grown hr (pa_cons (av 0) (pa_cons (av 1) pa_nil)) (by decide)))
      (pss_cut (ps_if (pt_not (pt_valA (pe_own O_law_fitting hr (pa_cons (av 2) pa_nil) (by decide)))) (pss_one (ps_set (i := 2) nd rfl (Or.inl rfl) (pe_lstS (pa_cons pe_int (pa_cons (pe_lstS (pa_cons (pe_lstS (pa_cons (pe_lstS (pa_cons pe_int pa_nil)) (pa_cons (pe_lstS (pa_cons pe_int pa_nil)) pa_nil))) pa_nil)) pa_nil))))) pss_nil)
      (pss_cons (ps_set (i := 3) nd rfl (Or.inl rfl) (av 2))
      (pss_cons (ps_for PassesOwn.never rfl (pi_range1 (by rfl) hrange (pa_cons (pe_own O_law_roll hr (pa_cons (av 0) (pa_cons pe_int pa_nil)) (by decide)) pa_nil)) (pg_name (i := 4) nd rfl (Or.inl rfl)) (pss_one (ps_set (i := 3) nd rfl (Or.inl rfl) (pe_own O_law_spoilt hr (pa_cons (av 0) (pa_cons (av 3) pa_nil)) (by decide)))))
      (pss_cons (ps_set (i := 5) nd rfl (Or.inl rfl) (pe_own O_law_net hr (pa_cons (av 0) (pa_cons (av 3) pa_nil)) (by decide)))
      (pss_one (ps_ret (pe_ifExp (pt_cmpA (op_eqA hr.units64) (pe_own O_law_defects hr (pa_cons (av 5) pa_nil) (by decide)) (pe_tupS pa_nil)) (av 5) (pe_own O_law_net hr (pa_cons (av 0) (pa_cons (av 2) pa_nil)) (by decide)))))))))), ?_⟩
    refine ⟨p, m, t, rfl, hp, by omega, ht, fun G n xs H1 nx1 dc1 g1 hn1 hl1 => ?_⟩
    refine ⟨fun σ H' => ∃ (G : Addr) (n : Int) (xs : List V), σ = [some (.ref p), some (.int t), some (.ref G), none, none, none] ∧ Nxt p H H' ∧ Dc p (m + 40) H' ∧ GrA p 256 H' G n xs ∧ n ≤ 30 ∧ xs.length ≤ 40, ?_, ?_⟩
    · refine ⟨p, G, 256, n, xs, rfl, g1, ?_⟩
      refine ite2 (fun c => ?_) (fun c => ?_)
      · refine ⟨by simp, fun i0 H2 s2 n2 l2 => ?_⟩
        refine ⟨by simp, fun o0 H3 s3 n3 l3 => ?_⟩
        refine ⟨by simp, fun a0 H4 s4 n4 l4 => ?_⟩
        refine ⟨by simp, fun St H5 s5 n5 l5 => ?_⟩
        refine ⟨by simp, fun G2 H6 s6 n6 l6 => ?_⟩
        have s26 := (((s2.trans s3).trans s4).trans s5).trans s6
        have p2 := dc1.ne n2
        have p3 := (dc1.same s2).ne n3
        have p4 := (dc1.same (s2.trans s3)).ne n4
        have p5 := (dc1.same ((s2.trans s3).trans s4)).ne n5
        have p6 := (dc1.same (((s2.trans s3).trans s4).trans s5)).ne n6
        refine ⟨G2, 2, [.ref a0], rfl, nx1.trans (Nxt.of s26), dc1.same s26, ⟨St, p6, p5, l6, s6 _ _ l5, by decide, by simp, fun v hv => ?_⟩, by decide, by simp⟩
        rw [List.mem_singleton.mp hv]
        exact ⟨a0, i0, o0, rfl, p4, s6 _ _ (s5 _ _ l4), li_one p2 (s6 _ _ (s5 _ _ (s4 _ _ (s3 _ _ l2)))) (by decide) (by decide) (by decide), li_one p3 (s6 _ _ (s5 _ _ (s4 _ _ l3))) (by decide) (by decide) (by decide)⟩
      · have c' : decide (n < 31 ∧ xs.length < 41) = true := bfalse c
        have c2 := of_decide_eq_true c'
        exact ⟨G, n, xs, rfl, nx1, dc1, g1, by omega, by omega⟩
    rintro σ H2 ⟨G, n, xs, rfl, nx2, dc2, g2, hn2, hl2⟩
    refine ⟨p, _, _, rfl, dc2, by omega, by decide, by decide, fun r H3 r0 r1 dc3 e3 => ?_⟩
    have nx3 := nx2.trans (Nxt.of_eq e3)
    have g3 := g2.nx (Nxt.of_eq e3)
    refine ⟨_, rfl, by omega, by omega, for_range (lo := 0) (n := r.toNat) (fun i σ H' => ∃ (G' : Addr) (ys : List V) (o4 : Option V), σ = [some (.ref p), some (.int t), some (.ref G), some (.ref G'), o4, none] ∧ Nxt p H H' ∧ Dc p (m + 41 + 40 * i) H' ∧ GrA p 256 H' G n xs ∧ GrA p (256 + 50 * i) H' G' n ys ∧ ys.length = xs.length)
      ⟨G, xs, _, rfl, nx3, dc3.mono (by omega), g3, g3, rfl⟩ ?_ ?_⟩
    · rintro i σ H4 hi ⟨G', ys, o4, rfl, nx4, dc4, g4, g4', hl4⟩
      refine ⟨p, G', _, _, n, ys, rfl, dc4, by omega, g4', by omega, by omega, by omega, fun G5 zs H5 nx5 dc5 g5 hl5 => ?_⟩
      exact ⟨G5, zs, _, rfl, nx4.trans nx5, dc5.mono (by omega), g4.nx nx5, g5, by omega⟩
    · rintro σ H4 ⟨G', ys, o4, rfl, nx4, dc4, g4, g4', hl4⟩
      have hr3 : r.toNat ≤ 3 := by omega
      refine ⟨p, G', _, _, n, ys, rfl, dc4, by omega, g4', by omega, hn2, by omega, fun rows v ts H5 hg5 nx5 dc5 dq5 lt5 => ?_⟩
      refine ⟨.ref v, n, rows, rfl, Dq.same hide_sub _ _ dq5, hg5, fun a zs H6 s6 n6 l6 r6 => ?_⟩
      refine ⟨by simp, fun e1 H7 s7 n7 l7 => ?_⟩
      refine ⟨.tuple ((defsL n rows).map rowT), .tuple [], .tup (SqT.of (s7 _ _ l6)) (rows_dp (r6.same s7)), .tup (SqT.of l7) .nil, rows_shapedT (defs_ok hg5), by decide +kernel, ?_⟩
      have s57 := s6.trans s7
      refine ite2 (fun c => ?_) (fun c => ?_)
      · exact k n rows v ts H7 hg5 ((nx4.trans nx5).trans (Nxt.of s57)) ((dc5.same s57).mono (by omega)) (Dq.same (hide_same s57) _ _ dq5) (s57 _ _ lt5)
      · refine ⟨p, G, _, _, n, xs, rfl, dc5.same s57, by omega, g4.nx (nx5.trans (Nxt.of s57)), by omega, hn2, hl2, fun rows2 v2 ts2 H8 hg8 nx8 dc8 dq8 lt8 => ?_⟩
        exact k n rows2 v2 ts2 H8 hg8 (((nx4.trans nx5).trans (Nxt.of s57)).trans nx8) (dc8.mono (by omega)) dq8 lt8
end
end K02

set_option Elab.async false
set_option linter.all false
set_option maxRecDepth 100000
set_option maxHeartbeats 4000000
namespace K02
open PySem L2 PySem.KX StX
/-! the net read backwards -/
def turnK (k : Int) : Int := if k < 2 then 1 - k else k
theorem turn_turn {k : Int} (h : 0 ≤ k) : turnK (turnK k) = k := by
  by_cases c : k < 2
  · have e : turnK k = 1 - k := if_pos c
    rw [e]
    have e2 : turnK (1 - k) = 1 - (1 - k) := if_pos (by omega)
    rw [e2]
    omega
  · have e : turnK k = k := if_neg c
    rw [e, e]
theorem turn_in {n k : Int} (h : 2 ≤ n) (h0 : 0 ≤ k) (h1 : k < n) : 0 ≤ turnK k ∧ turnK k < n := by
  unfold turnK
  split <;> omega
theorem turn_inj {a b : Int} (ha : 0 ≤ a) (hb : 0 ≤ b) (h : turnK a = turnK b) : a = b := by rw [← turn_turn ha, ← turn_turn hb, h]
def turnS (ns : List Int) : List Int := tidyI (ns.map turnK)
theorem turnS_mem {ns : List Int} {k : Int} : k ∈ turnS ns ↔ ∃ j ∈ ns, turnK j = k := by
  unfold turnS
  rw [(tidyI_ok _).mem, List.mem_map]
theorem turnS_is {n : Int} {ns ns' : List Int} (h : GoodI n ns) (p : ns'.Perm (ns.map turnK)) (s : ns'.Pairwise (· ≤ ·)) : ns' = turnS ns := by
  have nd : (ns.map turnK).Nodup := by
    have go : ∀ {l : List Int}, (∀ k ∈ l, 0 ≤ k) → l.Pairwise (· < ·) → (l.map turnK).Nodup := fun {l} => by
      induction l with
      | nil => intro _ _; exact List.nodup_nil
      | cons a r ih =>
        intro h0 hp
        obtain ⟨p1, p2⟩ := List.pairwise_cons.mp hp
        rw [List.map_cons, List.nodup_cons]
        refine ⟨fun z => ?_, ih (fun k hk => h0 k (List.mem_cons_of_mem _ hk)) p2⟩
        obtain ⟨j, hj, e⟩ := List.mem_map.mp z
        have := turn_inj (h0 j (List.mem_cons_of_mem _ hj)) (h0 a List.mem_cons_self) e
        have := p1 j hj
        omega
    exact go (fun k hk => (h.inn k hk).1) h.asc
  have nd' : ns'.Nodup := p.nodup_iff.mpr nd
  have asc : ns'.Pairwise (· < ·) := by
    clear p
    induction ns' with
    | nil => exact .nil
    | cons a r ih =>
      obtain ⟨p1, p2⟩ := List.pairwise_cons.mp s
      obtain ⟨q1, q2⟩ := List.nodup_cons.mp nd'
      refine List.pairwise_cons.mpr ⟨fun b hb => ?_, ih p2 q2⟩
      have := p1 b hb
      have : a ≠ b := fun z => q1 (z ▸ hb)
      omega
  exact asc_eq (R := fun a b : Int => a < b) (fun a => Int.lt_irrefl a) (fun a b c => Int.lt_trans) asc (tidyI_ok _).asc fun k => by
    rw [p.mem_iff]
    exact ((tidyI_ok (ns.map turnK)).mem k).symm
theorem turnS_good {n : Int} {ns : List Int} (h2 : 2 ≤ n) (h : GoodI n ns) : GoodI n (turnS ns) := by
  refine ⟨fun z => ?_, (tidyI_ok _).asc, fun k hk => ?_⟩
  · obtain ⟨j, hj⟩ := List.exists_mem_of_ne_nil _ h.ne
    have : turnK j ∈ turnS ns := turnS_mem.mpr ⟨j, hj, rfl⟩
    rw [z] at this
    exact nomatch this
  · obtain ⟨j, hj, rfl⟩ := turnS_mem.mp hk
    exact turn_in h2 (h.inn j hj).1 (h.inn j hj).2
def backR (r : RowN) : RowN := (r.1, turnS r.2.2, turnS r.2.1)
theorem good_back {n : Int} {rows : List RowN} (hg : GoodN n rows) : GoodN n (rows.map backR) := by
  refine ⟨hg.lo, hg.hi, by rw [List.length_map]; exact hg.one, by rw [List.length_map]; exact hg.few, fun r hr => ?_, List.Pairwise.map _ (fun a b z => z) hg.asc⟩
  obtain ⟨q, hq, rfl⟩ := List.mem_map.mp hr
  have G := hg.row q hq
  exact ⟨G.w, turnS_good hg.lo G.o, turnS_good hg.lo G.i⟩
abbrev s_law_backwards : Stmt := top 38
abbrev N_bw : List Str := ["net", "places", "steps", "rows", "name", "ins", "outs", "ends", "part", "place"]
theorem sc_law_backwards : FnScope N_bw ["net"] (defScope s_law_backwards) := ⟨rfl, rfl, rfl, by decide +kernel, rfl, by decide +kernel, by decide +kernel⟩
section
variable {P : Program} {w : World} {K : PySem.W.Frag} {mg : Str → Option Value} {base : Heap}
def spBack (K : PySem.W.Frag) : Sp := fun vs H Q _ => ∃ (v : V) (n : Int) (rows : List RowN), vs = [v] ∧ Dq K H v (netOf n rows) ∧ GoodN n rows ∧ ∀ a H', Same H H' → Dq K H' (.ref a) (netOf n (rows.map backR)) → Q (.ref a) H'
theorem ok_law_backwards {f : Addr} {fd : FuncData} (Fu : Fun K "_law_backwards" "_law_backwards" s_law_backwards f fd) (htup : mg "tuple" = none) (hsorted : mg "sorted" = none) : FnG P w K mg base CX0 1 f fd ["net"] (spBack K) := by
  have nd := sc_law_backwards.nd
  refine okG Fu sc_law_backwards (fun vs H Q E h => ?_) (fun cdv A outer s H vs Q E hr h => ?_)
  · obtain ⟨_, _, _, rfl, _⟩ := h
    rfl
  · obtain ⟨v, n, rows, rfl, hv, hg, k⟩ := h
    refine ⟨_, (pss_cons (ps_asg (av 0) (pg_tup rfl (pgs_cons (pg_name (i := 1) nd rfl (Or.inl rfl)) (pgs_cons (pg_name (i := 2) nd rfl (Or.inl rfl)) pgs_nil))))
      (pss_cons (ps_set (i := 3) nd rfl (Or.inl rfl) (pe_lstS pa_nil))
      (pss_cons (ps_for PassesOwn.never rfl (pi_tup (av 2)) (pg_tup rfl (pgs_cons (pg_name (i := 4) nd rfl (Or.inl rfl)) (pgs_cons (pg_name (i := 5) nd rfl (Or.inl rfl)) (pgs_cons (pg_name (i := 6) nd rfl (Or.inl rfl)) pgs_nil)))) (pss_cons (ps_set (i := 7) nd rfl (Or.inl rfl) (pe_lstS pa_nil))
      (pss_cons (ps_for PassesOwn.never rfl (pi_tup (pe_tupS (pa_cons (av 6) (pa_cons (av 5) pa_nil)))) (pg_name (i := 8) nd rfl (Or.inl rfl)) (pss_one (ps_expr (pe_appS (av 7) (pe_callTy call_tupLS (by rfl) htup (by decide +kernel) (pa_cons (pe_callB cr_sorted (by rfl) hsorted (by decide +kernel) (pa_cons (pe_lc (own := [("place", 9)]) (by rfl) nd (pi_tup (av 8)) (blkOk_by (N := N_bw) (sc := defScope s_law_backwards) (by decide +kernel)) (fun _ _ _ _ _ => (pg_name (i := 9) nd rfl (Or.inl rfl))) (fun _ _ _ _ _ => pts_nil) (fun _ _ _ _ _ => (pe_ifExp (pt_cmpA op_ltA (av 9) pe_int) (pe_op op_subA pe_int (av 9)) (av 9)))) pa_nil)) pa_nil))))))
      (pss_one (ps_expr (pe_appS (av 3) (pe_tupS (pa_cons (av 4) (pa_cons (pe_ixA (av 7) pe_int) (pa_cons (pe_ixA (av 7) pe_int) pa_nil))))))))))
      (pss_one (ps_ret (pe_tupS (pa_cons (av 1) (pa_cons (pe_callTy call_tupLS (by rfl) htup (by decide +kernel) (pa_cons (av 3) pa_nil)) pa_nil)))))))), ?_⟩
    obtain ⟨na, S, xs, rfl, hna, hS, hx⟩ := net_at hv
    have hxl := hx.length
    rw [List.length_map] at hxl
    have hfew := hg.few
    refine ⟨na, _, rfl, hna, rfl, _, _, rfl, _, _, rfl, rfl, ?_⟩
    refine ⟨by simp, fun R H1 s1 n1 l1 => ?_⟩
    refine ⟨S, rfl, ⟨_, s1.sqT hS⟩, ?_⟩
    have sR : ∀ {H' : Hp} {o : HO}, Same H H' → Same H (upd H' R o) := fun {H' o} s b o e => by rw [upd_ne (ne_of_none e n1)]; exact s b o e
    refine for_it (walk_tup (xs := xs)) (fun i σ H' => ∃ (acc : List V) (o4 o5 o6 o7 o8 o9 : Option V), σ = [some (.ref na), some (.int n), some (.ref S), some (.ref R), o4, o5, o6, o7, o8, o9] ∧ H' R = some (.lst acc) ∧ DqAll K (hide [R] H') acc (((rows.take i).map backR).map rowD) ∧ Same H H')
      ⟨[], _, _, _, _, _, _, rfl, l1, .nil, s1⟩ (fun i σ H' _ ⟨_, _, _, _, _, _, _, _, _, _, s⟩ => s.sqT hS) ?_ ?_
    · rintro i x σ Hx H2 hi ⟨acc, o4, o5, o6, o7, o8, o9, rfl, hR2, hacc, s2⟩ ⟨rfl, hxx⟩
      obtain ⟨d, hd, hdq⟩ := hx.get hxx
      obtain ⟨r, hr1, rfl⟩ := row_of_map hd
      obtain ⟨tt, p1, q1, rfl, htt, hp1, hq1⟩ := row_at hdq
      have G := hg.row r (List.mem_of_getElem? hr1)
      have fi := G.i.few hg.hi
      have fo := G.o.few hg.hi
      refine ⟨tt, _, rfl, s2.sqT htt, rfl, _, _, rfl, _, _, rfl, _, _, rfl, rfl, ?_⟩
      refine ⟨by simp, fun E H3 s3 n3 l3 => ?_⟩
      refine ⟨by simp, fun T H4 s4 n4 l4 => ?_⟩
      have hER : E ≠ R := fun z => by rw [z, hR2] at n3; cases n3
      have s24 := s3.trans s4
      have e4 : H4 E = some (.lst []) := s4 _ _ l3
      have hTE : T ≠ E := fun z => by rw [z, l3] at n4; cases n4
      refine ⟨T, rfl, ⟨_, SqT.of l4⟩, ?_⟩
      have sE : ∀ {H' : Hp} {o : HO}, Same H2 H' → Same H2 (upd H' E o) := fun {H' o} s b o e => by rw [upd_ne (ne_of_none e n3)]; exact s b o e
      refine for_it (walk_tup (xs := [.ref q1, .ref p1])) (fun j σ H' => ∃ (es : List V) (o8 o9 : Option V), σ = [some (.ref na), some (.int n), some (.ref S), some (.ref R), some (.str r.1), some (.ref p1), some (.ref q1), some (.ref E), o8, o9] ∧ H' E = some (.lst es) ∧ es.length = j ∧ (∀ (t : Nat) (v : V), es[t]? = some v → ∃ a, v = .ref a ∧ a ≠ E ∧ a ≠ R ∧ H' a = some (.tup ((turnS (if t = 0 then r.2.2 else r.2.1)).map V.int))) ∧ Same H2 H' ∧ H' T = some (.tup [.ref q1, .ref p1]))
        ⟨[], _, _, rfl, e4, rfl, (fun t v e => nomatch e), s24, l4⟩ (fun j σ H' _ ⟨_, _, _, _, _, _, _, _, h⟩ => SqT.of h) ?_ ?_
      · rintro j y σ Hx H5 hj ⟨es, o8', o9', rfl, hE5, hel, hes, s5, hT5⟩ ⟨rfl, hyy⟩
        obtain ⟨a, l, rfl, ha, hgl, hl⟩ : ∃ (a : Addr) (l : List Int), y = .ref a ∧ SqT K H a (l.map V.int) ∧ GoodI n l ∧ (if j = 0 then r.2.2 else r.2.1) = l := by
          match j, hyy with
          | 0, hyy => cases hyy; exact ⟨q1, r.2.2, rfl, hq1, G.o, rfl⟩
          | 1, hyy => cases hyy; exact ⟨p1, r.2.1, rfl, hp1, G.i, rfl⟩
          | j + 2, hyy => cases hyy
        have hl30 := hgl.few hg.hi
        refine ⟨E, es, rfl, hE5, ?_⟩
        have s05 := s2.trans s5
        refine ⟨a, rfl, ⟨_, s05.sqT ha⟩, fun D hD => ?_⟩
        refine lc_it (walk_tup (xs := l.map V.int)) (fun t H' => H' D = some (.lst (((l.take t).map turnK).map V.int)) ∧ ∀ b o, H5 b = some o → H' b = some o)
          ⟨upd_same, fun b o e => by rw [upd_ne (ne_of_none e hD)]; exact e⟩ (fun t H' _ ⟨_, kp⟩ => Same.sqT (s05.trans fun b o e => kp b o e) ha) ?_ ?_
        · rintro t z Hx H6 ht ⟨hD6, kp⟩ ⟨rfl, hz⟩
          rw [List.getElem?_map] at hz
          cases c2 : l[t]? with
          | none => rw [c2] at hz; cases hz
          | some z' =>
            rw [c2] at hz
            cases hz
            rw [List.length_map] at ht
            refine ⟨rfl, ?_⟩
            have go : ∃ acc : List V, H6 D = some (.lst acc) ∧ acc.length < sizeLine ∧ upd H6 D (.lst (acc ++ [.int (turnK z')])) D = some (.lst (((l.take (t + 1)).map turnK).map V.int)) ∧ ∀ b o, H5 b = some o → upd H6 D (.lst (acc ++ [.int (turnK z')])) b = some o := by
              refine ⟨_, hD6, by rw [List.length_map, List.length_map, List.length_take, sizeLine_eq]; omega, by rw [upd_same, List.take_add_one, c2, List.map_append, List.map_append]; rfl, fun b o e => ?_⟩
              rw [upd_ne (ne_of_none e hD)]
              exact kp b o e
            refine ite2 (fun c => ?_) (fun c => ?_)
            · have e : turnK z' = 1 - z' := if_pos (of_decide_eq_true c)
              rw [e] at go
              exact go
            · have e : turnK z' = z' := if_neg fun q => c (decide_eq_true q)
              rw [e] at go
              exact go
        · rintro H6 ⟨hD6, kp⟩
          rw [List.length_map, List.take_length] at hD6
          have s6 : Same H5 H6 := fun b o e => kp b o e
          refine ⟨D, _, rfl, SqL.of hD6, by rw [List.length_map]; omega, fun ns' p7 hpm hsr n7 => ?_⟩
          have s7 : Same H6 (upd H6 p7 (.lst (ns'.map V.int))) := (Same.refl _).new n7
          have l7 : upd H6 p7 (.lst (ns'.map V.int)) p7 = some (.lst (ns'.map V.int)) := upd_same
          generalize upd H6 p7 (.lst (ns'.map V.int)) = H7 at s7 l7 ⊢
          rw [turnS_is hgl hpm hsr] at l7
          refine ⟨p7, _, rfl, SqL.of l7, fun p8 H8 s8 n8 l8 => ?_⟩
          have s58 := (s6.trans s7).trans s8
          have hE8 := s58 _ _ hE5
          have h8E : p8 ≠ E := fun z => by rw [z, (s6.trans s7) _ _ hE5] at n8; cases n8
          have h8R : p8 ≠ R := fun z => by rw [z, ((s5.trans s6).trans s7) _ _ hR2] at n8; cases n8
          refine ⟨es, hE8, by simp at hj; omega, es ++ [.ref p8], _, _, rfl, upd_same, by simp [hel], fun t v e => ?_, sE (s5.trans s58), ?_⟩
          · by_cases c : t < es.length
            · rw [List.getElem?_append_left c] at e
              obtain ⟨b, rfl, b1, b2, b3⟩ := hes t v e
              exact ⟨b, rfl, b1, b2, by rw [upd_ne b1]; exact s58 _ _ b3⟩
            · rw [List.getElem?_append_right (by omega)] at e
              have e3 : t - es.length = 0 := by
                have := (List.getElem?_eq_some_iff.mp e).1
                simp at this
                omega
              rw [e3] at e
              cases e
              have et : t = j := by omega
              rw [et, hl]
              exact ⟨p8, rfl, h8E, h8R, by rw [upd_ne h8E]; exact l8⟩
          · rw [upd_ne hTE]
            exact s58 _ _ hT5
      · rintro σ H5 ⟨es, o8', o9', rfl, hE5, hel, hes, s5, hT5⟩
        obtain ⟨v0, v1, rfl⟩ : ∃ v0 v1, es = [v0, v1] := by
          match es, hel with
          | [v0, v1], _ => exact ⟨v0, v1, rfl⟩
        obtain ⟨a0, rfl, a0E, a0R, l0⟩ := hes 0 _ rfl
        obtain ⟨a1, rfl, a1E, a1R, l1'⟩ := hes 1 _ rfl
        have hR5 := s5 _ _ hR2
        refine ⟨R, acc, rfl, hR5, ?_⟩
        refine .inl ⟨_, .ref a0, SqL.of hE5, rfl, ?_⟩
        refine .inl ⟨_, .ref a1, SqL.of hE5, rfl, ?_⟩
        refine ⟨by simp, fun p6 H6 s6 n6 l6 => ?_⟩
        have h6R : p6 ≠ R := fun z => by rw [z, hR5] at n6; cases n6
        have hal := hacc.length
        rw [List.length_map, List.length_map, List.length_take] at hal
        refine ⟨acc, s6 _ _ hR5, by omega, acc ++ [.ref p6], _, _, _, _, _, _, rfl, upd_same, ?_, sR ((s2.trans s5).trans s6)⟩
        rw [hide_upd, List.take_add_one, hr1, List.map_append, List.map_append]
        refine dqAll_snoc (DqAll.same (hide_same (s5.trans s6)) _ _ hacc) ?_
        exact row_dq (x := r.1) (hid_of h6R l6) (hid_of a0R (s6 _ _ l0)) (hid_of a1R (s6 _ _ l1'))
    · rintro σ H2 ⟨acc, o4, o5, o6, o7, o8, o9, rfl, hR2, hacc, s2⟩
      rw [hxl, List.take_length] at hacc
      refine ⟨R, _, rfl, SqL.of hR2, fun p3 H3 s3 n3 l3 => ?_⟩
      refine ⟨by simp, fun p4 H4 s4 n4 l4 => ?_⟩
      exact k p4 H4 ((s2.trans s3).trans s4) (.tup (SqT.of l4) (.cons (.int _) (.cons (.tup (SqT.of (s4 _ _ l3)) (DqAll.same (s3.trans s4) _ _ (DqAll.same hide_sub _ _ hacc))) .nil)))
end
end K02

set_option Elab.async false
set_option linter.all false
set_option maxRecDepth 100000
set_option maxHeartbeats 4000000
namespace K02
open PySem L2 PySem.KX StX
/-! the defects of the net read backwards -/
def tOf : RowK → List RowK
  | [.inr a, y] => if a = "start" then [[.inr "end", y]] else if a = "end" then [[.inr "start", y]] else if a = "place" then (match y with | .inl k => [dPlace (turnK k)] | .inr _ => []) else if a = "step" then [[.inr a, y]] else []
  | _ => []
theorem tOf_start (x : Str) : tOf (dStart x) = [dEnd x] := by
  have e : tOf (dStart x) = (if ("start" : Str) = "start" then [[.inr "end", .inr x]] else if ("start" : Str) = "end" then [[.inr "start", .inr x]] else if ("start" : Str) = "place" then ([] : List RowK) else if ("start" : Str) = "step" then [[.inr "start", .inr x]] else []) := rfl
  rw [e, if_pos rfl]
  rfl
theorem tOf_end (x : Str) : tOf (dEnd x) = [dStart x] := by
  have e : tOf (dEnd x) = (if ("end" : Str) = "start" then [[.inr "end", .inr x]] else if ("end" : Str) = "end" then [[.inr "start", .inr x]] else if ("end" : Str) = "place" then ([] : List RowK) else if ("end" : Str) = "step" then [[.inr "end", .inr x]] else []) := rfl
  rw [e, if_neg (by decide +kernel), if_pos rfl]
  rfl
theorem tOf_place (k : Int) : tOf (dPlace k) = [dPlace (turnK k)] := by
  have e : tOf (dPlace k) = (if ("place" : Str) = "start" then [[.inr "end", .inl k]] else if ("place" : Str) = "end" then [[.inr "start", .inl k]] else if ("place" : Str) = "place" then ([dPlace (turnK k)] : List RowK) else if ("place" : Str) = "step" then [[.inr "place", .inl k]] else []) := rfl
  rw [e, if_neg (by decide +kernel), if_neg (by decide +kernel), if_pos rfl]
theorem tOf_step (x : Str) : tOf (dStep x) = [dStep x] := by
  have e : tOf (dStep x) = (if ("step" : Str) = "start" then [[.inr "end", .inr x]] else if ("step" : Str) = "end" then [[.inr "start", .inr x]] else if ("step" : Str) = "place" then ([] : List RowK) else if ("step" : Str) = "step" then [[.inr "step", .inr x]] else []) := rfl
  rw [e, if_neg (by decide +kernel), if_neg (by decide +kernel), if_neg (by decide +kernel), if_pos rfl]
  rfl
theorem tOf_choice (x y : Str) : tOf (dChoice x y) = [] := rfl
theorem tOf_df {r q : RowK} (h : IsDf r) (hq : q ∈ tOf r) : IsDf q := by
  rcases h with ⟨x, rfl⟩ | ⟨x, rfl⟩ | ⟨x, x', rfl⟩ | ⟨x, rfl⟩ | ⟨x, rfl⟩
  · rw [tOf_start] at hq; rw [List.mem_singleton.mp hq]; exact .inr (.inl ⟨_, rfl⟩)
  · rw [tOf_end] at hq; rw [List.mem_singleton.mp hq]; exact .inl ⟨_, rfl⟩
  · rw [tOf_choice] at hq; exact nomatch hq
  · rw [tOf_place] at hq; rw [List.mem_singleton.mp hq]; exact .inr (.inr (.inr (.inl ⟨_, rfl⟩)))
  · rw [tOf_step] at hq; rw [List.mem_singleton.mp hq]; exact .inr (.inr (.inr (.inr ⟨_, rfl⟩)))
abbrev s_law_turned : Stmt := top 39
abbrev N_tn : List Str := ["defects", "found", "defect"]
theorem sc_law_turned : FnScope N_tn ["defects"] (defScope s_law_turned) := ⟨rfl, rfl, rfl, by decide +kernel, rfl, by decide +kernel, by decide +kernel⟩
section
variable {P : Program} {w : World} {K : PySem.W.Frag} {mg : Str → Option Value} {base : Heap}
def spTurn (K : PySem.W.Frag) : Sp := fun vs H Q _ => ∃ (a : Addr) (xs : List V) (rs : List RowK), vs = [.ref a] ∧ SqT K H a xs ∧ RowsAt H xs rs ∧ (∀ r ∈ rs, IsDf r) ∧ rs.length ≤ 2000 ∧
  ∀ b ys H', Same H H' → H b = none → H' b = some (.lst ys) → RowsAt H' ys (sortRows (rs.flatMap tOf)) → Q (.ref b) H'
theorem ok_law_turned {f : Addr} {fd : FuncData} (Fu : Fun K "_law_turned" "_law_turned" s_law_turned f fd) (hint : mg "int" = none) (hsorted : mg "sorted" = none) : FnG P w K mg base CX0 1 f fd ["defects"] (spTurn K) := by
  have nd := sc_law_turned.nd
  refine okG Fu sc_law_turned (fun vs H Q E h => ?_) (fun cdv A outer s H vs Q E hr h => ?_)
  · obtain ⟨_, _, _, rfl, _⟩ := h
    rfl
  · obtain ⟨a, xs, rs, rfl, ha, hx, hdf, hrl, k⟩ := h
    refine ⟨_, (pss_cons (ps_set (i := 1) nd rfl (Or.inl rfl) (pe_lstS pa_nil))
      (pss_cons (ps_for PassesOwn.never rfl (pi_tup (av 0)) (pg_name (i := 2) nd rfl (Or.inl rfl)) (pss_one (ps_if (pt_cmpA op_in_seq (pe_ixA (av 2) pe_int) (pe_tupS (pa_cons pe_str (pa_cons pe_str pa_nil)))) (pss_one (ps_expr (pe_appS (av 1) (pe_tupS (pa_cons (pe_ixA (pe_lstS (pa_cons pe_str (pa_cons pe_str pa_nil))) (pe_callTy call_intA (by rfl) hint (by decide +kernel) (pa_cons (pe_cmpA (op_eqA hr.units64) (pe_ixA (av 2) pe_int) pe_str) pa_nil))) (pa_cons (pe_ixA (av 2) pe_int) pa_nil)))))) (pss_one (ps_if (pt_cmpA (op_eqA hr.units64) (pe_ixA (av 2) pe_int) pe_str) (pss_one (ps_expr (pe_appS (av 1) (pe_tupS (pa_cons pe_str (pa_cons (pe_ifExp (pt_cmpA op_ltA (pe_ixA (av 2) pe_int) pe_int) (pe_op op_subA pe_int (pe_ixA (av 2) pe_int)) (pe_ixA (av 2) pe_int)) pa_nil)))))) (pss_one (ps_if (pt_cmpA (op_eqA hr.units64) (pe_ixA (av 2) pe_int) pe_str) (pss_one (ps_expr (pe_appS (av 1) (av 2)))) pss_nil)))))))
      (pss_one (ps_ret (pe_callB (call_sortRow hr.units64) (by rfl) hsorted (by decide +kernel) (pa_cons (av 1) pa_nil)))))), ?_⟩
    refine ⟨by simp, fun F H1 s1 n1 l1 => ?_⟩
    have sF : ∀ {H' : Hp} {o : HO}, Same H H' → Same H (upd H' F o) := fun {H' o} s b o e => by rw [upd_ne (ne_of_none e n1)]; exact s b o e
    have hxl := rows_len hx
    refine ⟨a, rfl, ⟨_, s1.sqT ha⟩, ?_⟩
    refine for_it (walk_tup (xs := xs)) (fun i σ H' => ∃ (ac : List V) (o2 : Option V), σ = [some (.ref a), some (.ref F), o2] ∧ H' F = some (.lst ac) ∧ RowsAt H' ac ((rs.take i).flatMap tOf) ∧ ac.length ≤ i ∧ Same H H')
      ⟨[], _, rfl, l1, .nil, by simp, s1⟩ (fun i σ H' _ ⟨_, _, _, _, _, _, s⟩ => s.sqT ha) ?_ ?_
    · rintro i x σ Hx H2 hi ⟨ac, o2, rfl, hF2, hac, hal, s2⟩ ⟨rfl, hxx⟩
      obtain ⟨r, hr1, t, rfl, ht⟩ := paired_get hx hxx
      have ht2 := s2 _ _ ht
      have hdr := hdf r (List.mem_of_getElem? hr1)
      have hf : (rs.take (i + 1)).flatMap tOf = (rs.take i).flatMap tOf ++ tOf r := by
        rw [List.take_add_one, hr1, List.flatMap_append]
        simp
      rcases hdr with ⟨x, rfl⟩ | ⟨x, rfl⟩ | ⟨x, x', rfl⟩ | ⟨x, rfl⟩ | ⟨x, rfl⟩
      · refine .inr ⟨_, .str "start", SqT.of ht2, rfl, ?_⟩
        refine ⟨by simp, fun T H3 s3 n3 l3 => ?_⟩
        refine ⟨T, _, rfl, .inr (SqT.of l3), rfl, rfl, ?_⟩
        refine ite2 (fun c => ?_) (fun c => ?_)
        rotate_left
        · exact absurd (by decide +kernel) c
        refine ⟨F, ac, rfl, s3 _ _ hF2, ?_⟩
        refine ⟨by simp, fun L H4 s4 n4 l4 => ?_⟩
        have ht4 := s4 _ _ (s3 _ _ ht2)
        refine .inr ⟨_, .str "start", SqT.of ht4, rfl, ?_⟩
        refine .inl ⟨_, .str "end", SqL.of l4, by rfl, ?_⟩
        refine .inr ⟨_, .str x, SqT.of ht4, rfl, ?_⟩
        refine ⟨by simp, fun q H5 s5 n5 l5 => ?_⟩
        have s25 := (s3.trans s4).trans s5
        have hF5 := s25 _ _ hF2
        refine ⟨ac, hF5, by omega, ac ++ [.ref q], _, rfl, upd_same, ?_, by simp; omega, sF (s2.trans s25)⟩
        rw [hf, tOf_start]
        exact rows_upd hF5 (rows_snoc (hac.same s25) ⟨q, rfl, l5⟩)
      · refine .inr ⟨_, .str "end", SqT.of ht2, rfl, ?_⟩
        refine ⟨by simp, fun T H3 s3 n3 l3 => ?_⟩
        refine ⟨T, _, rfl, .inr (SqT.of l3), rfl, rfl, ?_⟩
        refine ite2 (fun c => ?_) (fun c => ?_)
        rotate_left
        · exact absurd (by decide +kernel) c
        refine ⟨F, ac, rfl, s3 _ _ hF2, ?_⟩
        refine ⟨by simp, fun L H4 s4 n4 l4 => ?_⟩
        have ht4 := s4 _ _ (s3 _ _ ht2)
        refine .inr ⟨_, .str "end", SqT.of ht4, rfl, ?_⟩
        refine .inl ⟨_, .str "start", SqL.of l4, by rfl, ?_⟩
        refine .inr ⟨_, .str x, SqT.of ht4, rfl, ?_⟩
        refine ⟨by simp, fun q H5 s5 n5 l5 => ?_⟩
        have s25 := (s3.trans s4).trans s5
        have hF5 := s25 _ _ hF2
        refine ⟨ac, hF5, by omega, ac ++ [.ref q], _, rfl, upd_same, ?_, by simp; omega, sF (s2.trans s25)⟩
        rw [hf, tOf_end]
        exact rows_upd hF5 (rows_snoc (hac.same s25) ⟨q, rfl, l5⟩)
      · refine .inr ⟨_, .str "choice", SqT.of ht2, rfl, ?_⟩
        refine ⟨by simp, fun T H3 s3 n3 l3 => ?_⟩
        refine ⟨T, _, rfl, .inr (SqT.of l3), rfl, rfl, ?_⟩
        refine ite2 (fun c => ?_) (fun c => ?_)
        · exact absurd c (by decide +kernel)
        have ht3 := s3 _ _ ht2
        have hF3 := s3 _ _ hF2
        refine .inr ⟨_, .str "choice", SqT.of ht3, rfl, ?_⟩
        dsimp only [tIfS, aTest, tOp, tC, aVar, List.set, List.getElem?_cons_succ, List.getElem?_cons_zero]
        refine eq_key (a := .inr "choice") (b := .inr "place") (by decide +kernel) (by decide +kernel) ?_
        refine ite2 (fun c => ?_) (fun c => ?_)
        · exact absurd c (by decide +kernel)
        refine .inr ⟨_, .str "choice", SqT.of ht3, rfl, ?_⟩
        dsimp only [tIfS, aTest, tOp, tC, aVar, List.set, List.getElem?_cons_succ, List.getElem?_cons_zero]
        refine eq_key (a := .inr "choice") (b := .inr "step") (by decide +kernel) (by decide +kernel) ?_
        refine ite2 (fun c => ?_) (fun c => ?_)
        · exact absurd c (by decide +kernel)
        refine ⟨ac, _, rfl, hF3, ?_, by omega, s2.trans s3⟩
        rw [hf, tOf_choice, List.append_nil]
        exact hac.same s3
      · refine .inr ⟨_, .str "place", SqT.of ht2, rfl, ?_⟩
        refine ⟨by simp, fun T H3 s3 n3 l3 => ?_⟩
        refine ⟨T, _, rfl, .inr (SqT.of l3), rfl, rfl, ?_⟩
        refine ite2 (fun c => ?_) (fun c => ?_)
        · exact absurd c (by decide +kernel)
        have ht3 := s3 _ _ ht2
        have hF3 := s3 _ _ hF2
        refine .inr ⟨_, .str "place", SqT.of ht3, rfl, ?_⟩
        dsimp only [tIfS, aTest, tOp, tC, aVar, List.set, List.getElem?_cons_succ, List.getElem?_cons_zero]
        refine eq_key (a := .inr "place") (b := .inr "place") (by decide +kernel) (by decide +kernel) ?_
        refine ite2 (fun c => ?_) (fun c => ?_)
        rotate_left
        · exact absurd (by decide +kernel) c
        refine ⟨F, ac, rfl, hF3, ?_⟩
        refine .inr ⟨_, .int x, SqT.of ht3, rfl, ?_⟩
        have go : ∀ (q : Addr) (H5 : Hp), Same H3 H5 → H3 q = none → H5 q = some (.tup [.str "place", .int (turnK x)]) → ∃ ac', H5 F = some (.lst ac') ∧ ac'.length ≤ 1000000 ∧ ∃ (ac2 : List V) (o2 : Option V), [some (.ref a), some (.ref F), some (.ref t)] = [some (.ref a), some (.ref F), o2] ∧ upd H5 F (.lst (ac' ++ [.ref q])) F = some (.lst ac2) ∧ RowsAt (upd H5 F (.lst (ac' ++ [.ref q]))) ac2 ((rs.take (i + 1)).flatMap tOf) ∧ ac2.length ≤ i + 1 ∧ Same H (upd H5 F (.lst (ac' ++ [.ref q]))) := fun q H5 s5 n5 l5 => by
          have s25 := s3.trans s5
          have hF5 := s25 _ _ hF2
          refine ⟨ac, hF5, by omega, ac ++ [.ref q], _, rfl, upd_same, ?_, by simp; omega, sF (s2.trans s25)⟩
          rw [hf, tOf_place]
          exact rows_upd hF5 (rows_snoc (hac.same s25) ⟨q, rfl, l5⟩)
        refine ite2 (fun c2 => ?_) (fun c2 => ?_)
        · have e : turnK x = 1 - x := if_pos (of_decide_eq_true c2)
          rw [e] at go
          refine .inr ⟨_, .int x, SqT.of ht3, rfl, ?_⟩
          exact ⟨by simp, fun q H5 s5 n5 l5 => go q H5 s5 n5 l5⟩
        · have e : turnK x = x := if_neg fun z => c2 (decide_eq_true z)
          rw [e] at go
          refine .inr ⟨_, .int x, SqT.of ht3, rfl, ?_⟩
          exact ⟨by simp, fun q H5 s5 n5 l5 => go q H5 s5 n5 l5⟩
      · refine .inr ⟨_, .str "step", SqT.of ht2, rfl, ?_⟩
        refine ⟨by simp, fun T H3 s3 n3 l3 => ?_⟩
        refine ⟨T, _, rfl, .inr (SqT.of l3), rfl, rfl, ?_⟩
        refine ite2 (fun c => ?_) (fun c => ?_)
        · exact absurd c (by decide +kernel)
        have ht3 := s3 _ _ ht2
        have hF3 := s3 _ _ hF2
        refine .inr ⟨_, .str "step", SqT.of ht3, rfl, ?_⟩
        dsimp only [tIfS, aTest, tOp, tC, aVar, List.set, List.getElem?_cons_succ, List.getElem?_cons_zero]
        refine eq_key (a := .inr "step") (b := .inr "place") (by decide +kernel) (by decide +kernel) ?_
        refine ite2 (fun c => ?_) (fun c => ?_)
        · exact absurd c (by decide +kernel)
        refine .inr ⟨_, .str "step", SqT.of ht3, rfl, ?_⟩
        dsimp only [tIfS, aTest, tOp, tC, aVar, List.set, List.getElem?_cons_succ, List.getElem?_cons_zero]
        refine eq_key (a := .inr "step") (b := .inr "step") (by decide +kernel) (by decide +kernel) ?_
        refine ite2 (fun c => ?_) (fun c => ?_)
        rotate_left
        · exact absurd (by decide +kernel) c
        refine ⟨F, ac, rfl, hF3, ac, hF3, by omega, ac ++ [.ref t], _, rfl, upd_same, ?_, by simp; omega, sF (s2.trans s3)⟩
        rw [hf, tOf_step]
        exact rows_upd hF3 (rows_snoc (hac.same s3) ⟨t, rfl, ht3⟩)
    · rintro σ H2 ⟨ac, o2, rfl, hF2, hac, hal, s2⟩
      rw [hxl, List.take_length] at hac
      have hdf2 : ∀ q ∈ rs.flatMap tOf, IsDf q := fun q hq => by
        obtain ⟨r, hr, h⟩ := List.mem_flatMap.mp hq
        exact tOf_df (hdf r hr) h
      refine ⟨F, ac, _, rfl, SqL.of hF2, hac, fun r hr q hq => df_cmp (hdf2 r hr) (hdf2 q hq), fun ys p H3 s3 n3 l3 r3 => ?_⟩
      exact k p ys H3 (s2.trans s3) (s2.free n3) l3 r3
end
end K02

set_option Elab.async false
set_option linter.all false
set_option maxRecDepth 100000
set_option maxHeartbeats 4000000
/-! the defects of the net read backwards are those, turned. -/
namespace K02
open PySem L2 PySem.KX StX
def notCh (r : RowK) : Bool := !decide (r.head? = some (Sum.inr "choice" : Key))
theorem turn01 : turnK 0 = 1 ∧ turnK 1 = 0 := ⟨rfl, rfl⟩
theorem turnS_has {n : Int} {ns : List Int} (h : GoodI n ns) {k : Int} (hk : 0 ≤ k) : k ∈ turnS ns ↔ turnK k ∈ ns := by
  rw [turnS_mem]
  constructor
  · rintro ⟨j, hj, rfl⟩
    rw [turn_turn (h.inn j hj).1]
    exact hj
  · intro h
    exact ⟨turnK k, h, turn_turn hk⟩
def Edg (rows : List RowN) (a c : Int) : Prop := ∃ r ∈ rows, a ∈ r.2.1 ∧ c ∈ r.2.2
theorem reach_turn {as bs : List RowN} (h : ∀ a c, Edg as a c → Edg bs (turnK a) (turnK c)) {b k : Int} (r : Reach as b k) : Reach bs (turnK b) (turnK k) := by
  induction r with
  | base => exact .base
  | step _ hr hk hj ih =>
    obtain ⟨q, hq, h1, h2⟩ := h _ _ ⟨_, hr, hk, hj⟩
    exact .step ih hq h1 h2
section
variable {n : Int} {rows : List RowN}
theorem edg_back (hg : GoodN n rows) {a c : Int} (h : Edg (rows.map flipR) a c) : Edg (rows.map backR) (turnK a) (turnK c) := by
  obtain ⟨r, hr, h1, h2⟩ := h
  obtain ⟨q, hq, rfl⟩ := List.mem_map.mp hr
  exact ⟨backR q, List.mem_map.mpr ⟨q, hq, rfl⟩, turnS_mem.mpr ⟨a, h1, rfl⟩, turnS_mem.mpr ⟨c, h2, rfl⟩⟩
theorem edg_back' (hg : GoodN n rows) {a c : Int} (h : Edg (rows.map backR) a c) : Edg (rows.map flipR) (turnK a) (turnK c) := by
  obtain ⟨r, hr, h1, h2⟩ := h
  obtain ⟨q, hq, rfl⟩ := List.mem_map.mp hr
  have G := hg.row q hq
  obtain ⟨j, hj, rfl⟩ := turnS_mem.mp h1
  obtain ⟨l, hl, rfl⟩ := turnS_mem.mp h2
  refine ⟨flipR q, List.mem_map.mpr ⟨q, hq, rfl⟩, ?_, ?_⟩
  · rw [turn_turn (G.o.inn j hj).1]; exact hj
  · rw [turn_turn (G.i.inn l hl).1]; exact hl
theorem edg_flip (hg : GoodN n rows) {a c : Int} (h : Edg rows a c) : Edg ((rows.map backR).map flipR) (turnK a) (turnK c) := by
  obtain ⟨q, hq, h1, h2⟩ := h
  exact ⟨flipR (backR q), List.mem_map.mpr ⟨_, List.mem_map.mpr ⟨q, hq, rfl⟩, rfl⟩, turnS_mem.mpr ⟨a, h1, rfl⟩, turnS_mem.mpr ⟨c, h2, rfl⟩⟩
theorem edg_flip' (hg : GoodN n rows) {a c : Int} (h : Edg ((rows.map backR).map flipR) a c) : Edg rows (turnK a) (turnK c) := by
  obtain ⟨r, hr, h1, h2⟩ := h
  obtain ⟨p, hp, rfl⟩ := List.mem_map.mp hr
  obtain ⟨q, hq, rfl⟩ := List.mem_map.mp hp
  have G := hg.row q hq
  obtain ⟨j, hj, rfl⟩ := turnS_mem.mp h1
  obtain ⟨l, hl, rfl⟩ := turnS_mem.mp h2
  refine ⟨q, hq, ?_, ?_⟩
  · rw [turn_turn (G.i.inn j hj).1]; exact hj
  · rw [turn_turn (G.o.inn l hl).1]; exact hl
theorem reach_back (hg : GoodN n rows) {k : Int} (hk : 0 ≤ k) : reachB (rows.map backR) 0 k = reachB (rows.map flipR) 1 (turnK k) := by
  unfold reachB
  have e : Reach (rows.map backR) 0 k ↔ Reach (rows.map flipR) 1 (turnK k) := by
    constructor
    · intro h
      exact reach_turn (fun a c => edg_back' hg) h
    · intro h
      have := reach_turn (fun a c => edg_back hg) h
      rw [turn_turn hk] at this
      exact this
  exact decide_eq_decide.mpr e
theorem reach_flip (hg : GoodN n rows) {k : Int} (hk : 0 ≤ k) : reachB ((rows.map backR).map flipR) 1 k = reachB rows 0 (turnK k) := by
  unfold reachB
  have e : Reach ((rows.map backR).map flipR) 1 k ↔ Reach rows 0 (turnK k) := by
    constructor
    · intro h
      exact reach_turn (fun a c => edg_flip' hg) h
    · intro h
      have := reach_turn (fun a c => edg_flip hg) h
      rw [turn_turn hk] at this
      exact this
  exact decide_eq_decide.mpr e
theorem badP_back (hg : GoodN n rows) {k : Int} (hk : 0 ≤ k) : badP (rows.map backR) k = badP rows (turnK k) := by
  unfold badP
  rw [reach_back hg hk, reach_flip hg hk, Bool.or_comm]
theorem any_turn {p q : Int → Bool} {ns : List Int} (h : GoodI n ns) (e : ∀ k, 0 ≤ k → p k = q (turnK k)) : (turnS ns).any p = ns.any q := by
  rw [Bool.eq_iff_iff, List.any_eq_true, List.any_eq_true]
  constructor
  · rintro ⟨k, hk, hp⟩
    obtain ⟨j, hj, rfl⟩ := turnS_mem.mp hk
    have h0 := (h.inn j hj).1
    rw [e _ (turn_in (n := 2 + (turnK j).natAbs + j.natAbs) (by omega) h0 (by omega)).1, turn_turn h0] at hp
    exact ⟨j, hj, hp⟩
  · rintro ⟨j, hj, hq⟩
    have h0 := (h.inn j hj).1
    refine ⟨turnK j, turnS_mem.mpr ⟨j, hj, rfl⟩, ?_⟩
    rw [e _ (turn_in (n := 2 + (turnK j).natAbs + j.natAbs) (by omega) h0 (by omega)).1, turn_turn h0]
    exact hq
theorem badR_back (hg : GoodN n rows) {r : RowN} (hr : r ∈ rows) : badR (rows.map backR) (backR r) = badR rows r := by
  have G := hg.row r hr
  unfold badR
  rw [show (backR r).2.1 = turnS r.2.2 from rfl, show (backR r).2.2 = turnS r.2.1 from rfl, any_turn G.o fun k hk => reach_back hg hk, any_turn G.i fun k hk => reach_flip hg hk, Bool.or_comm]
/-! list by list -/
theorem starts_back (hg : GoodN n rows) : startsL (rows.map backR) = (endsL rows).flatMap tOf := by
  unfold startsL endsL
  have e : ∀ l : List RowN, (∀ r ∈ l, GoodR n r) → ((l.map backR).filter fun r => decide ((0 : Int) ∈ r.2.2)).map (fun r => dStart r.1) = ((l.filter fun r => decide ((1 : Int) ∈ r.2.1)).map fun r => dEnd r.1).flatMap tOf := fun l => by
    induction l with
    | nil => intro _; rfl
    | cons r l ih =>
      intro h
      have ih := ih fun q hq => h q (List.mem_cons_of_mem _ hq)
      have G := h r List.mem_cons_self
      have e1 : decide ((0 : Int) ∈ (backR r).2.2) = decide ((1 : Int) ∈ r.2.1) := decide_eq_decide.mpr (turnS_has G.i (by decide))
      rw [List.map_cons, List.filter_cons, List.filter_cons, e1]
      cases decide ((1 : Int) ∈ r.2.1) with
      | true =>
        rw [if_pos rfl, if_pos rfl, List.map_cons, List.map_cons, List.flatMap_cons, ih, tOf_end]
        rfl
      | false => rw [if_neg (by decide), if_neg (by decide)]; exact ih
  exact e rows hg.row
theorem ends_back (hg : GoodN n rows) : endsL (rows.map backR) = (startsL rows).flatMap tOf := by
  unfold startsL endsL
  have e : ∀ l : List RowN, (∀ r ∈ l, GoodR n r) → ((l.map backR).filter fun r => decide ((1 : Int) ∈ r.2.1)).map (fun r => dEnd r.1) = ((l.filter fun r => decide ((0 : Int) ∈ r.2.2)).map fun r => dStart r.1).flatMap tOf := fun l => by
    induction l with
    | nil => intro _; rfl
    | cons r l ih =>
      intro h
      have ih := ih fun q hq => h q (List.mem_cons_of_mem _ hq)
      have G := h r List.mem_cons_self
      have e1 : decide ((1 : Int) ∈ (backR r).2.1) = decide ((0 : Int) ∈ r.2.2) := decide_eq_decide.mpr (turnS_has G.o (by decide))
      rw [List.map_cons, List.filter_cons, List.filter_cons, e1]
      cases decide ((0 : Int) ∈ r.2.2) with
      | true =>
        rw [if_pos rfl, if_pos rfl, List.map_cons, List.map_cons, List.flatMap_cons, ih, tOf_start]
        rfl
      | false => rw [if_neg (by decide), if_neg (by decide)]; exact ih
  exact e rows hg.row
theorem steps_back (hg : GoodN n rows) : stepsL (rows.map backR) = (stepsL rows).flatMap tOf := by
  unfold stepsL
  have e : ∀ l : List RowN, (∀ r ∈ l, r ∈ rows) → ((l.map backR).filter (badR (rows.map backR))).map (fun r => dStep r.1) = ((l.filter (badR rows)).map fun r => dStep r.1).flatMap tOf := fun l => by
    induction l with
    | nil => intro _; rfl
    | cons r l ih =>
      intro h
      have ih := ih fun q hq => h q (List.mem_cons_of_mem _ hq)
      rw [List.map_cons, List.filter_cons, List.filter_cons, badR_back hg (h r List.mem_cons_self)]
      cases badR rows r with
      | true =>
        rw [if_pos rfl, if_pos rfl, List.map_cons, List.map_cons, List.flatMap_cons, ih, tOf_step]
        rfl
      | false => rw [if_neg (by decide), if_neg (by decide)]; exact ih
  exact e rows fun _ h => h
theorem range_turn (m : Nat) : (((List.range (m + 2)).map fun i : Nat => (i : Int)).map turnK).Perm ((List.range (m + 2)).map fun i : Nat => (i : Int)) := by
  rw [List.range_succ_eq_map, List.range_succ_eq_map]
  simp only [List.map_cons, List.map_map]
  have e : (List.range m).map (turnK ∘ ((fun i : Nat => (i : Int)) ∘ (Nat.succ ∘ Nat.succ))) = (List.range m).map ((fun i : Nat => (i : Int)) ∘ (Nat.succ ∘ Nat.succ)) := List.map_congr_left fun i _ => by
    show turnK (((i + 1 + 1 : Nat)) : Int) = ((i + 1 + 1 : Nat) : Int)
    unfold turnK
    rw [if_neg (by omega)]
  have e2 : turnK ((0 : Nat) : Int) = ((Nat.succ 0 : Nat) : Int) := rfl
  have e3 : turnK ((Nat.succ 0 : Nat) : Int) = ((0 : Nat) : Int) := rfl
  rw [e2, e3, e]
  exact List.Perm.swap _ _ _
theorem places_back (hg : GoodN n rows) : (placesL n (rows.map backR)).Perm ((placesL n rows).flatMap tOf) := by
  have h2 := hg.lo
  obtain ⟨m, hm⟩ : ∃ m : Nat, n.toNat = m + 2 := ⟨n.toNat - 2, by omega⟩
  unfold placesL
  rw [hm]
  have hp := range_turn m
  have h0 : ∀ k ∈ (List.range (m + 2)).map fun i : Nat => (i : Int), 0 ≤ k := fun k hk => by
    obtain ⟨i, _, rfl⟩ := List.mem_map.mp hk
    omega
  generalize (List.range (m + 2)).map (fun i : Nat => (i : Int)) = L at hp h0
  have e1 : L.filter (badP (rows.map backR)) = L.filter fun k => badP rows (turnK k) := List.filter_congr fun k hk => badP_back hg (h0 k hk)
  have e2 : ∀ l : List Int, (l.map dPlace).flatMap tOf = l.map fun k => dPlace (turnK k) := fun l => by
    induction l with
    | nil => rfl
    | cons k l ih => rw [List.map_cons, List.flatMap_cons, ih, tOf_place]; rfl
  rw [e1, e2]
  have p1 : ((L.filter fun k => badP rows (turnK k)).map turnK).Perm (L.filter (badP rows)) := by
    have q := hp.filter (badP rows)
    rw [List.filter_map] at q
    exact q
  have p2 := p1.map fun k => dPlace (turnK k)
  rw [List.map_map] at p2
  have e3 : (L.filter fun k => badP rows (turnK k)).map ((fun k => dPlace (turnK k)) ∘ turnK) = (L.filter fun k => badP rows (turnK k)).map dPlace := List.map_congr_left fun k hk => by
    show dPlace (turnK (turnK k)) = dPlace k
    rw [turn_turn (h0 k (List.mem_filter.mp hk).1)]
  rw [e3] at p2
  exact p2
theorem choices_none (rows : List RowN) : (choicesL rows).filter notCh = [] ∧ (choicesL rows).flatMap tOf = [] := by
  have h : ∀ r ∈ choicesL rows, ∃ x y, r = dChoice x y := fun r hr => by
    obtain ⟨i, _, hi⟩ := List.mem_flatMap.mp hr
    unfold choicesAt at hi
    split at hi
    · obtain ⟨q, _, rfl⟩ := List.mem_map.mp hi
      exact ⟨_, _, rfl⟩
    · exact absurd hi List.not_mem_nil
  constructor
  · refine List.filter_eq_nil_iff.mpr fun r hr => ?_
    obtain ⟨x, y, rfl⟩ := h r hr
    unfold notCh
    rw [decide_eq_true (by rfl)]
    decide
  · refine List.flatMap_eq_nil_iff.mpr fun r hr => ?_
    obtain ⟨x, y, rfl⟩ := h r hr
    exact tOf_choice x y
theorem keep_all {l : List RowK} (h : ∀ r ∈ l, ∃ a y, r = [Sum.inr a, y] ∧ a ≠ "choice") : l.filter notCh = l := List.filter_eq_self.mpr fun r hr => by
  obtain ⟨a, y, rfl, ha⟩ := h r hr
  unfold notCh
  have e : decide (([Sum.inr a, y] : RowK).head? = some (Sum.inr "choice" : Key)) = false := decide_eq_false fun z => ha (Sum.inr.inj (Option.some.inj z))
  rw [e]
  rfl
theorem told_perm (hg : GoodN n rows) : ((allL n (rows.map backR)).filter notCh).Perm ((allL n rows).flatMap tOf) := by
  unfold allL
  rw [List.filter_append, List.filter_append, List.filter_append, List.filter_append, List.flatMap_append, List.flatMap_append, List.flatMap_append, List.flatMap_append, (choices_none _).1, (choices_none _).2, List.append_nil, List.append_nil]
  have k1 : (startsL (rows.map backR)).filter notCh = startsL (rows.map backR) := keep_all fun r hr => by
    obtain ⟨q, _, rfl⟩ := List.mem_map.mp hr
    exact ⟨_, _, rfl, by decide +kernel⟩
  have k2 : (endsL (rows.map backR)).filter notCh = endsL (rows.map backR) := keep_all fun r hr => by
    obtain ⟨q, _, rfl⟩ := List.mem_map.mp hr
    exact ⟨_, _, rfl, by decide +kernel⟩
  have k3 : (placesL n (rows.map backR)).filter notCh = placesL n (rows.map backR) := keep_all fun r hr => by
    obtain ⟨q, _, rfl⟩ := List.mem_map.mp hr
    exact ⟨_, _, rfl, by decide +kernel⟩
  have k4 : (stepsL (rows.map backR)).filter notCh = stepsL (rows.map backR) := keep_all fun r hr => by
    obtain ⟨q, _, rfl⟩ := List.mem_map.mp hr
    exact ⟨_, _, rfl, by decide +kernel⟩
  rw [k1, k2, k3, k4, starts_back hg, ends_back hg, steps_back hg]
  exact (List.perm_append_comm).append ((places_back hg).append_right _)
theorem told_eq (hg : GoodN n rows) : (defsL n (rows.map backR)).filter notCh = sortRows ((defsL n rows).flatMap tOf) := by
  refine sorted_uniq ((sortRows_sorted _).filter _) (sortRows_sorted _) ?_
  have p1 := (sortRows_perm (allL n (rows.map backR))).filter notCh
  have p2 := told_perm hg
  have p3 : ((allL n rows).flatMap tOf).Perm ((defsL n rows).flatMap tOf) := ((sortRows_perm (allL n rows)).flatMap_right tOf).symm
  exact ((p1.trans p2).trans p3).trans (sortRows_perm _).symm
end
end K02

set_option Elab.async false
set_option linter.all false
set_option maxRecDepth 100000
set_option maxHeartbeats 4000000
/-! bools among ints, str(x), bool(x); x[::-1] of texts and tuples; upper of plain letters. -/
namespace L2
open PySem PySem.Spec PyProof.Rows PySem.KX
section
variable {X : Cx}
/-- an int or a bool as a number -/
def numV : V → Option Int
  | .int i => some i
  | .bl b => some (if b = true then 1 else 0)
  | _ => none
/-- x + i -/
def rAddB : R2 := fun x y H Q => ∃ a j : Int, numV x = some a ∧ y = .int j ∧ Q (.int (a + j)) H
theorem op_addB : OpR X (binaryOp .Add) rAddB := by
  intro pins s σ H x y v u Q I rx ry h
  obtain ⟨a, j, e, rfl, q⟩ := h
  obtain ⟨t2, rfl⟩ := ry
  cases x with
  | int i =>
    cases e
    exact op_add pins s σ H _ _ v _ Q I rx (show RelV (.int j) (.int j t2) from ⟨t2, rfl⟩) ⟨_, _, rfl, rfl, q⟩
  | bl b =>
    cases e
    cases rx
    exact IntBool.add_bool_int ⟨.int _, H, I.tok _, ⟨_, rfl⟩, q⟩
  | _ => cases e
/-- x - i -/
def rSubB : R2 := fun x y H Q => ∃ a j : Int, numV x = some a ∧ y = .int j ∧ Q (.int (a - j)) H
theorem op_subB : OpR X (binaryOp .Sub) rSubB := by
  intro pins s σ H x y v u Q I rx ry h
  obtain ⟨a, j, e, rfl, q⟩ := h
  obtain ⟨t2, rfl⟩ := ry
  cases x with
  | int i =>
    cases e
    exact op_sub pins s σ H _ _ v _ Q I rx (show RelV (.int j) (.int j t2) from ⟨t2, rfl⟩) ⟨_, _, rfl, rfl, q⟩
  | bl b =>
    cases e
    cases rx
    exact IntBool.sub_bool_int ⟨.int _, H, I.tok _, ⟨_, rfl⟩, q⟩
  | _ => cases e
/-- i - x -/
def rSubR : R2 := fun x y H Q => ∃ a j : Int, x = .int j ∧ numV y = some a ∧ Q (.int (j - a)) H
theorem op_subR : OpR X (binaryOp .Sub) rSubR := by
  intro pins s σ H x y v u Q I rx ry h
  obtain ⟨a, j, rfl, e, q⟩ := h
  cases y with
  | int i =>
    cases e
    exact op_sub pins s σ H _ _ v u Q I rx ry ⟨_, _, rfl, rfl, q⟩
  | bl b =>
    cases e
    cases ry
    obtain ⟨t2, rfl⟩ := rx
    exact IntBool.sub_int_bool ⟨.int _, H, I.tok _, ⟨_, rfl⟩, q⟩
  | _ => cases e
/-- bool(x), x an int or a bool -/
def rBoolN : List V → Hp → VK → Prop := fun xs H Q => ∃ (x : V) (a : Int), xs = [x] ∧ numV x = some a ∧ ∀ b : Bool, Q (.bl b) H
theorem call_boolN : CallR X (.type "bool") rBoolN := call_bool1.imp fun xs H Q ⟨x, a, e, h, k⟩ => by
  subst e
  cases x with
  | int i => exact .inl ⟨i, rfl, k _⟩
  | bl b => exact .inr ⟨b, rfl, k _⟩
  | _ => cases h
/-- z[::-1]: the same signs -/
def tRevS (te : TE) : TE := fun σ H Q => te σ H fun x H1 => ∃ z, x = .str z ∧ z.length ≤ sizeLine ∧ ∀ y : Str, y.length = z.length → (∀ c ∈ y.cps.toList, c ∈ z.cps.toList) → Q (.str y) H1
theorem rev_signs (z : Str) : ((Builtin.Str.strSliceIndices none none (-1) z.length).filterMap (z.cps[·]?)) = (List.range z.length).map fun k => z.cps.getD (z.length - 1 - k) 0 := by
  rw [picked_rev, filterMap_get, List.map_map]
  · rfl
  · intro i hi
    obtain ⟨k, hk, rfl⟩ := List.mem_map.mp hi
    have hk' : k < z.length := List.mem_range.mp hk
    show z.length - 1 - k < z.length
    omega
theorem pe_revS {e : Expr} {te : TE} {k : Nat} {p1 p2 p3 pos : Pos} (he : PE X e te) : PE X (.Subscript e (.Slice none none (some (.UnaryOp .USub (.Constant (.int 1) k p1) p2)) p3) pos) (tRevS te) := by
  refine ⟨fun pins s σ H Q I h => ?_⟩
  refine Subscript_ (thn (he.run pins s σ H _ I h) fun v s1 ⟨x, H1, I1, r1, q1⟩ => ?_)
  obtain ⟨z, ex, hx, q⟩ := q1
  subst ex
  obtain ⟨t, rfl⟩ := r1
  have hst : PO X (some (.UnaryOp .USub (.Constant (.int 1) k p1) p2)) (tPart (tUn (rU fun i => .int (-i)) (tC (.int 1)))) := po_some (pe_un un_neg pe_int)
  refine wpAny_Slice (thn (po_none.run pins s1 σ H1 (fun o H2 => o = none ∧ H2 = H1) I1 ⟨rfl, rfl⟩) fun vl s2 ⟨l, H2, I2, pl, el, e2⟩ => ?_)
  subst el e2
  refine thn (po_none.run pins s2 σ H2 (fun o H3 => o = none ∧ H3 = H2) I2 ⟨rfl, rfl⟩) fun vu s3 ⟨u, H3, I3, pu, eu, e3⟩ => ?_
  subst eu e3
  refine thn (hst.run pins s3 σ H3 (fun o H4 => o = some (-1) ∧ H4 = H3) I3 ⟨1, rfl, -1, rfl, rfl, rfl⟩) fun vs s4 ⟨o, H4, I4, ps, eo, e4⟩ => ?_
  subst eo e4
  have I5 : Inv X pins σ H4 { s4 with heap := s4.heap.push { cls := .type "slice", data := .fields #[vl, vu, vs] } } := I4.kept (t' := s4.toks) fun b ob q => Heap.get?_push_of_some _ q
  show wpAny (model X.prog X.w) X.A (subscriptTail e (.Slice none none (some (.UnaryOp .USub (.Constant (.int 1) k p1) p2)) p3) (.str z t) (.ref s4.heap.objs.size)) (EP X pins σ Q) X.xe { s4 with heap := s4.heap.push { cls := .type "slice", data := .fields #[vl, vu, vs] } }
  cases pl
  cases pu
  cases ps with
  | int i tk =>
    refine tail_any (ops := [.str z t, .ref s4.heap.objs.size]) (typeIs_str _ _ _) (F.slot_str_getitem.lookup) ?_ (by with_unfolding_all rfl)
    refine wpAny_getItem_str_slice (l := none) (u := none) (st := some (-1, tk)) ⟨_, Heap.get?_push_size _ rfl, rfl, rfl⟩ rfl ?_
    show Made.post (if ((-1 : Int) == 1 && (Builtin.Str.strSliceIndices none none (-1) z.length).length == z.length) = true then Made.val (.str z t)
      else Made.str ⟨((Builtin.Str.strSliceIndices none none (-1) z.length).filterMap (z.cps[·]?)).toArray⟩) (EP X pins σ Q) _
    rw [if_neg (by simp), rev_signs]
    have hl : (⟨((List.range z.length).map fun k => z.cps.getD (z.length - 1 - k) 0).toArray⟩ : Str).length = z.length := by
      show Array.size _ = _
      simp
    refine ⟨by rw [hl]; exact hx, .str _, H4, I5.tok _, ⟨_, rfl⟩, q _ hl fun c hc => ?_⟩
    have hc' : c ∈ (List.range z.length).map fun k => z.cps.getD (z.length - 1 - k) 0 := by simpa using hc
    obtain ⟨k, hk, rfl⟩ := List.mem_map.mp hc'
    have hk' := List.mem_range.mp hk
    have hlt : z.length - 1 - k < z.cps.size := by show z.length - 1 - k < z.length; omega
    rw [Array.mem_toList_iff]
    simp [Array.getD, hlt]
/-- t[::-1] -/
theorem back_pick (xs : Array Value) : ((List.range xs.size).filterMap fun (m : Nat) => xs[(((xs.size : Int) - 1) + (m : Int) * (-1)).toNat]?) = xs.toList.reverse := by
  have key : ∀ k, k ≤ xs.size → ((List.range k).filterMap fun (m : Nat) => xs[(((xs.size : Int) - 1) + (m : Int) * (-1)).toNat]?) = xs.toList.reverse.take k := by
    intro k
    induction k with
    | zero => intro _; rfl
    | succ k ih =>
      intro hk
      rw [List.range_succ, List.filterMap_append, ih (by omega), List.take_add_one]
      congr 1
      have e : (((xs.size : Int) - 1) + (k : Int) * (-1)).toNat = xs.size - 1 - k := by omega
      rw [List.filterMap_cons, e, List.filterMap_nil]
      have h1 : xs.size - 1 - k < xs.size := by omega
      have h2 : xs.toList.reverse[k]? = some xs[xs.size - 1 - k] := by
        rw [List.getElem?_reverse (by simp; omega)]
        simp
      rw [h2, Array.getElem?_eq_getElem h1]
      rfl
  rw [key xs.size (Nat.le_refl _), List.take_of_length_le (by simp)]
theorem getItem_tuple_back {prog : Program} {w : World} {A : Around} {E : Value → Shared → Prop} {s : Shared} {t sl : Addr} {items : Array Value} {i : Tok} {Q : Value → Shared → Prop} (ht : IsTup s.heap t items) (hs : s.heap.IsSliceOf sl .none .none (.int (-1) i))
    (h : Q (.ref s.heap.objs.size) { s with heap := s.heap.push { cls := .type "tuple", data := .seq items.toList.reverse.toArray } })
    (hsz : items.size ≤ sizeLine) : wpAny (model prog w) A (getItem (.ref t) (.ref sl)) Q E s := by
  have htake : sizeOk (.seq items.toList.reverse.toArray) := by
    show items.toList.reverse.toArray.size ≤ sizeLine
    simpa using hsz
  obtain ⟨os, hos, hcs, hds⟩ := id hs
  have hTs : s.TypeIs (.ref sl) "slice" := ⟨os, hos, hcs⟩
  unfold getItem
  try with_reducible refine wpAny_holding ?_
  first | refine wpAny_bind (wpAny_pure ?_) | skip
  refine wpAny_bind (wpAny_sequenceKey ht.typeIs (by decide) ?_)
  refine wpAny_bind (wpAny_callSpecial?_slot (name := Str.ofString "__getitem__") ht.typeIs PyProof.Rows.slot_tuple_getitem
    (wpAny_call_entry PyProof.Rows.slot_tuple_getitem ht.typeIs entry_tuple_getitem ?_ (args_tuple_getitem _ _)))
  show wpAny _ _ (Builtin.Tuple.tupleItemsOf (.ref t) >>= _) _ _ s
  refine wpAny_bind (tupleItemsOf_ ht ?_)
  refine wpAny_bind (wpAny_typeOf hTs ?_)
  rw [if_pos (by decide)]
  have app : ∀ {Q' : Int × Int × Nat → Shared → Prop}, Q' ((items.size : Int) - 1, -1, items.size) s → wpAny (model prog w) A.in1 (Builtin.Slice.sliceApplied (.ref sl) (pure (items.size : Int))) Q' E s := fun {Q'} q => by
    unfold Builtin.Slice.sliceApplied Builtin.Slice.sliceFields
    refine wpAny_bind (wpAny_bind (wpAny_field hos hds (x := .none) rfl (wpAny_bind (wpAny_field hos hds (x := .none) rfl (wpAny_bind (wpAny_field hos hds (x := .int (-1) i) rfl (wpAny_pure ?_)))))))
    refine wpAny_bind (slicePart_int ?_)
    show wpAny _ _ (if ((-1 : Int) == 0) = true then _ else _) _ _ s
    rw [if_neg (by decide)]
    refine wpAny_bind (slicePart_none (wpAny_bind (slicePart_none (wpAny_bind (wpAny_pure ?_)))))
    have e1 : Builtin.Slice.sliceAdjust none none (-1) (items.size : Int) = ((items.size : Int) - 1, -1) := by
      unfold Builtin.Slice.sliceAdjust
      rfl
    have e2 : Builtin.Slice.slicePlaces ((items.size : Int) - 1) (-1) (-1) = items.size := by
      unfold Builtin.Slice.slicePlaces
      simp
      try omega
    show wpAny _ _ (match Builtin.Slice.sliceAdjust none none (-1) (items.size : Int) with | (lo, hi) => pure (lo, (-1 : Int), Builtin.Slice.slicePlaces lo hi (-1))) _ _ s
    rw [e1]
    show wpAny _ _ (pure ((items.size : Int) - 1, (-1 : Int), Builtin.Slice.slicePlaces ((items.size : Int) - 1) (-1) (-1))) _ _ s
    rw [e2]
    exact wpAny_pure q
  refine wpAny_bind (app ?_)
  show wpAny _ _ (if ((((items.size : Int) - 1) == 0 && (-1 : Int) == 1 && items.size == items.size)) = true then _ else _) _ _ s
  rw [if_neg (by simp), back_pick]
  first
    | exact wpAny_bind (m := Builtin.Tuple.tupleExact _) (wpAny_newObj_type (wpAny_pure ⟨_, rfl, wpAny_pure h⟩) htake)
    | exact wpAny_bind (m := Builtin.Tuple.tupleExact _) (wpAny_newObj_type (wpAny_bind (wpAny_pure (wpAny_pure ⟨_, rfl, wpAny_pure h⟩))) htake)
    | exact wpAny_bind (wpAny_bind (m := Builtin.Tuple.tupleExact _) (wpAny_newObj_type (wpAny_pure (wpAny_pure ⟨_, rfl, wpAny_pure h⟩)) htake))
    | exact wpAny_bind (wpAny_bind (m := Builtin.Tuple.tupleExact _) (wpAny_newObj_type (wpAny_pure ⟨_, rfl, wpAny_pure h⟩) htake))
def tRevT (K : PySem.W.Frag) (te : TE) : TE := fun σ H Q => te σ H fun x H1 => ∃ a xs, x = .ref a ∧ SqT K H1 a xs ∧ ∀ p H', Same H1 H' → H1 p = none → H' p = some (.tup xs.reverse) → Q (.ref p) H'
theorem pe_revT {e : Expr} {te : TE} {k : Nat} {p1 p2 p3 pos : Pos} (he : PE X e te) : PE X (.Subscript e (.Slice none none (some (.UnaryOp .USub (.Constant (.int 1) k p1) p2)) p3) pos) (tRevT X.K te) := by
  refine ⟨fun pins s σ H Q I h => ?_⟩
  refine Subscript_ (thn (he.run pins s σ H _ I h) fun v s1 ⟨x, H1, I1, r1, q1⟩ => ?_)
  obtain ⟨a, xs, ex, hx, q⟩ := q1
  subst ex
  cases r1
  have hst : PO X (some (.UnaryOp .USub (.Constant (.int 1) k p1) p2)) (tPart (tUn (rU fun i => .int (-i)) (tC (.int 1)))) := po_some (pe_un un_neg pe_int)
  refine wpAny_Slice (thn (po_none.run pins s1 σ H1 (fun o H2 => o = none ∧ H2 = H1) I1 ⟨rfl, rfl⟩) fun vl s2 ⟨l, H2, I2, pl, el, e2⟩ => ?_)
  subst el e2
  refine thn (po_none.run pins s2 σ H2 (fun o H3 => o = none ∧ H3 = H2) I2 ⟨rfl, rfl⟩) fun vu s3 ⟨u, H3, I3, pu, eu, e3⟩ => ?_
  subst eu e3
  refine thn (hst.run pins s3 σ H3 (fun o H4 => o = some (-1) ∧ H4 = H3) I3 ⟨1, rfl, -1, rfl, rfl, rfl⟩) fun vs s4 ⟨o, H4, I4, ps, eo, e4⟩ => ?_
  subst eo e4
  have I5 : Inv X pins σ H4 { s4 with heap := s4.heap.push { cls := .type "slice", data := .fields #[vl, vu, vs] } } := I4.kept (t' := s4.toks) fun b ob q => Heap.get?_push_of_some _ q
  obtain ⟨its, r, ht, hz⟩ := I5.tuple hx
  have hlen := r.length
  show wpAny (model X.prog X.w) X.A (subscriptTail e (.Slice none none (some (.UnaryOp .USub (.Constant (.int 1) k p1) p2)) p3) (.ref a) (.ref s4.heap.objs.size)) (EP X pins σ Q) X.xe { s4 with heap := s4.heap.push { cls := .type "slice", data := .fields #[vl, vu, vs] } }
  cases pl
  cases pu
  cases ps with
  | int i tk =>
    refine tail_any (ops := [.ref a, .ref s4.heap.objs.size]) ht.typeIs (PyProof.Rows.slot_tuple_getitem.lookup) ?_ (by with_unfolding_all rfl)
    refine getItem_tuple_back ht (Heap.IsSliceOf.new _ _ _ _) ?_ (by rw [List.size_toArray]; omega)
    have hf := I5.hok.fresh (Nat.le_refl _)
    refine ⟨.ref _, _, I5.laid (t' := s4.toks) (o := .tup xs.reverse) (fun b ob q => Heap.get?_push_of_some _ q) (Nat.le_refl _) ?_, rfl, q _ _ ((Same.refl _).new hf) hf upd_same⟩
    exact ⟨by rw [List.length_reverse]; exact hz, _, r.reverse, IsTup.new _ _⟩
/-- str(x), x an int or a bool -/
def rStrN : List V → Hp → VK → Prop := fun xs H Q => ∃ (x : V) (a : Int), xs = [x] ∧ numV x = some a ∧ a.natAbs.log2 < 1920 ∧ (∀ i : Int, x = .int i → Q (.str (toString i)) H) ∧ (∀ b : Bool, x = .bl b → Q (.str (if b = true then "True" else "False")) H)
theorem call_strN : CallR X (.type "str") rStrN := by
  intro pins s σ H xs us Q I r h
  obtain ⟨x, a, rfl, e, hl, k1, k2⟩ := h
  cases x with
  | int i =>
    cases e
    exact call_str_int pins s σ H _ us Q I r ⟨_, rfl, hl, k1 _ rfl⟩
  | bl b =>
    obtain ⟨u, rfl, ru⟩ := vals1 r
    cases ru
    exact PySem.P.str_of_bool ⟨.str _, H, I.tok _, ⟨_, rfl⟩, k2 b rfl⟩
  | _ => cases e
/-- upper of plain signs: as many plain signs -/
def rUpA : V → List V → Hp → VK → Prop := fun x xs H Q => ∃ a : Str, x = .str a ∧ xs = [] ∧ a.length ≤ 100000 ∧ (∀ c ∈ a.cps.toList, c < 128) ∧ ∀ y : Str, y.length = a.length → (∀ c ∈ y.cps.toList, c < 128) → Q (.str y) H
theorem mt_upA : MtR X "str.upper" rUpA := by
  intro pins s σ H x xs v us Q I rx rs h
  obtain ⟨a, e1, e2, hl, ha, q⟩ := h
  refine mt_upper pins s σ H x xs v us Q I rx rs ⟨a, e1, e2, by omega, ?_⟩
  rw [upper_ascii ha]
  refine q _ ?_ fun c hc => ?_
  · show Array.size _ = Array.size _
    simp
  · have hc' : c ∈ a.cps.toList.map up1 := by simpa using hc
    obtain ⟨c0, h0, rfl⟩ := List.mem_map.mp hc'
    have := ha c0 h0
    unfold up1
    split <;> omega
end
end L2

set_option Elab.async false
set_option linter.all false
set_option maxRecDepth 100000
set_option maxHeartbeats 4000000
/-! Data of moderate size, bent. -/
namespace L2
open PySem PySem.Spec PyProof.Rows PySem.KX
section
variable {X : Cx}
/-- list(t), a new list not at the place of sys.modules -/
def rLstN (K : PySem.W.Frag) : List V → Hp → VK → Prop := fun vs H Q => ∃ (t : Addr) (ys : List V), vs = [.ref t] ∧ SqT K H t ys ∧ ∀ p H', (p == sysModules) = false → Same H H' → H p = none → H' p = some (.lst ys) → Q (.ref p) H'
theorem call_lstN : CallR X (.type "list") (rLstN X.K) := by
  intro pins s σ H xs us Q I r h
  obtain ⟨p, ys, rfl, hq, q⟩ := h
  obtain ⟨u, rfl, rx⟩ := vals1 r
  cases rx
  obtain ⟨its, r', pl, hz⟩ := I.tuple hq
  have hlen := r'.length
  obtain ⟨o, ho, hc, n, hd⟩ := pl
  have hf : H s.heap.objs.size = none := I.hok.fresh (Nat.le_refl _)
  refine call_list_seq p (.inr rfl) ho hc hd (fun h' c' kp e => ?_) (by simp only [List.size_toArray] <;> omega)
  have nb : (s.heap.objs.size == sysModules) = false := beq_eq_false_iff_ne.mpr (Nat.ne_of_gt I.big)
  have ob : ObjOk X.prog X.w (upd H s.heap.objs.size (.lst ys)) h' s.heap.objs.size (.lst ys) := ⟨hz, its, c', r', e⟩
  exact ⟨.ref s.heap.objs.size, _, I.laid (t' := s.toks) kp (Nat.le_refl _) ob, rfl, q _ _ nb ((Same.refl _).new hf) hf upd_same⟩
end
/-- a tuple is not the list at p -/
theorem sqT_hide {K : PySem.W.Frag} {H : Hp} {p r : Addr} {xs ys : List V} (h : SqT K H r ys) (hp : H p = some (.lst xs)) : SqT K (hide [p] H) r ys := by
  rcases h with (h | ⟨o, h⟩) | h
  · refine .inl (.inl ?_)
    rw [hide_in (fun z => by rw [List.mem_singleton.mp z, hp] at h; cases h)]
    exact h
  · refine .inl (.inr ⟨o, ?_⟩)
    rw [hide_in (fun z => by rw [List.mem_singleton.mp z, hp] at h; cases h)]
    exact h
  · exact .inr h
section
variable {K : PySem.W.Frag} {H : Hp}
theorem DnAll.length : ∀ {vs : List V} {ds : List PyData}, DnAll K H vs ds → vs.length = ds.length
  | _, _, .nil => rfl
  | _, _, .cons _ t => by simp [DnAll.length t]
theorem DnAll.get : ∀ {vs : List V} {ds : List PyData} {i : Nat} {v : V}, DnAll K H vs ds → vs[i]? = some v → ∃ d, ds[i]? = some d ∧ Dn K H v d
  | _, _, i, v, .nil, e => by simp at e
  | _, _, 0, v, .cons h _, e => by
    simp at e
    subst e
    exact ⟨_, rfl, h⟩
  | _, _, i + 1, v, .cons _ t, e => by
    obtain ⟨d, h1, h2⟩ := DnAll.get (i := i) (v := v) t (by simpa using e)
    exact ⟨d, by simpa using h1, h2⟩
theorem DnAll.append : ∀ {vs us : List V} {ds es : List PyData}, DnAll K H vs ds → DnAll K H us es → DnAll K H (vs ++ us) (ds ++ es)
  | _, _, _, _, .nil, h => h
  | _, _, _, _, .cons h t, k => .cons h (DnAll.append t k)
theorem DnAll.take : ∀ {vs : List V} {ds : List PyData} (n : Nat), DnAll K H vs ds → DnAll K H (vs.take n) (ds.take n)
  | _, _, 0, _ => by simpa using DnAll.nil
  | _, _, n + 1, .nil => by simpa using DnAll.nil
  | _, _, n + 1, .cons h t => .cons h (DnAll.take n t)
theorem DnAll.drop : ∀ {vs : List V} {ds : List PyData} (n : Nat), DnAll K H vs ds → DnAll K H (vs.drop n) (ds.drop n)
  | _, _, 0, h => by simpa using h
  | _, _, n + 1, .nil => by simpa using DnAll.nil
  | _, _, n + 1, .cons _ t => DnAll.drop n t
theorem DnAll.reverse : ∀ {vs : List V} {ds : List PyData}, DnAll K H vs ds → DnAll K H vs.reverse ds.reverse
  | _, _, .nil => .nil
  | _, _, .cons h t => by
    rw [List.reverse_cons, List.reverse_cons]
    exact DnAll.append (DnAll.reverse t) (.cons h .nil)
end
theorem cutV_to (xs : List V) (k : Nat) : cutV xs none (some (k : Int)) = xs.take k := by
  unfold cutV
  rw [HT.sIx_none, HT.sIx_nat, List.drop_zero, Nat.sub_zero]
  exact List.take_eq_take_iff.mpr (by omega)
theorem cutV_from (xs : List V) (k : Nat) : cutV xs (some (k : Int)) none = xs.drop k := by
  unfold cutV
  rw [HT.sIx_none, HT.sIx_nat, List.take_of_length_le (by simp)]
  by_cases h : k ≤ xs.length
  · rw [Nat.min_eq_left h]
  · rw [Nat.min_eq_right (by omega), List.drop_length, List.drop_of_length_le (by omega)]
theorem cutV_init (xs : List V) : cutV xs none (some (-1)) = xs.take (xs.length - 1) := by
  unfold cutV
  have e : HT.sIx xs.length xs.length (some (-1)) = xs.length - 1 := by
    unfold HT.sIx
    dsimp only
    rw [if_pos (show (-1 : Int) < 0 by decide)]
    omega
  rw [HT.sIx_none, e, List.drop_zero, Nat.sub_zero]
/-- 10 ** 30 -/
def bigN : Nat := 10 ^ 30
mutual
/-- moderate after k bends -/
def okB (k : Nat) : PyData → Bool
  | .none => true
  | .bool _ => true
  | .int i => decide (i.natAbs ≤ (k + 1) * bigN)
  | .str x => decide (x.length ≤ 40 * (k + 1)) && x.cps.toList.all fun c => decide (c < 128)
  | .list xs => decide (xs.length ≤ 50 + k) && okBAll k xs
  | .tuple xs => decide (xs.length ≤ 50 + k) && okBAll k xs
  | .dict [] => true
  | .dict _ => false
def okBAll (k : Nat) : List PyData → Bool
  | [] => true
  | x :: xs => okB k x && okBAll k xs
end
theorem okBAll_iff {k : Nat} : ∀ {ds : List PyData}, okBAll k ds = true ↔ ∀ d ∈ ds, okB k d = true
  | [] => by simp [okBAll]
  | x :: r => by simp [okBAll, okBAll_iff (ds := r)]
mutual
theorem okB_up {k : Nat} : ∀ d : PyData, okB k d = true → okB (k + 1) d = true
  | .none, _ => by simp [okB]
  | .bool _, _ => by simp [okB]
  | .int i, h => by
    simp only [okB, decide_eq_true_eq] at h ⊢
    exact Nat.le_trans h (Nat.mul_le_mul_right _ (by omega))
  | .str x, h => by
    simp only [okB, Bool.and_eq_true, decide_eq_true_eq] at h ⊢
    exact ⟨by omega, h.2⟩
  | .list xs, h => by
    simp only [okB, Bool.and_eq_true, decide_eq_true_eq] at h ⊢
    exact ⟨by omega, okBAll_up xs h.2⟩
  | .tuple xs, h => by
    simp only [okB, Bool.and_eq_true, decide_eq_true_eq] at h ⊢
    exact ⟨by omega, okBAll_up xs h.2⟩
  | .dict [], _ => by simp [okB]
  | .dict (_ :: _), h => by simp [okB] at h
theorem okBAll_up {k : Nat} : ∀ ds : List PyData, okBAll k ds = true → okBAll (k + 1) ds = true
  | [], _ => by simp [okBAll]
  | x :: r, h => by
    simp only [okBAll, Bool.and_eq_true] at h ⊢
    exact ⟨okB_up x h.1, okBAll_up r h.2⟩
end
structure Md (k W D : Nat) (d : PyData) : Prop where
  ok : okB k d = true
  wt : d.weight ≤ W
  dp : d.depth ≤ D
theorem weight_app : ∀ as bs : List PyData, PyData.weightAll (as ++ bs) = PyData.weightAll as + PyData.weightAll bs
  | [], bs => by simp [PyData.weightAll]
  | a :: as, bs => by
    simp only [List.cons_append, PyData.weightAll, weight_app as bs]
    omega
theorem weight_cut (n : Nat) (as : List PyData) : PyData.weightAll (as.take n) + PyData.weightAll (as.drop n) = PyData.weightAll as := by
  rw [← weight_app, List.take_append_drop]
theorem weight_rev : ∀ as : List PyData, PyData.weightAll as.reverse = PyData.weightAll as
  | [] => rfl
  | a :: as => by
    rw [List.reverse_cons, weight_app, weight_rev as]
    simp only [PyData.weightAll]
    omega
theorem weight_mem {d : PyData} : ∀ {ds : List PyData}, d ∈ ds → d.weight + 1 ≤ PyData.weightAll ds
  | x :: r, h => by
    simp only [PyData.weightAll]
    rcases List.mem_cons.mp h with z | z
    · subst z
      omega
    · have := weight_mem z
      omega
theorem depth_le {M : Nat} : ∀ {ds : List PyData}, (∀ d ∈ ds, d.depth ≤ M) → PyData.depthAll ds ≤ M
  | [], _ => by simp [PyData.depthAll]
  | x :: r, h => by
    have h1 := h x List.mem_cons_self
    have h2 := depth_le fun d hd => h d (List.mem_cons_of_mem x hd)
    simp only [PyData.depthAll]
    omega
theorem depth_mem_le {d : PyData} : ∀ {ds : List PyData}, d ∈ ds → d.depth ≤ PyData.depthAll ds
  | x :: r, h => by
    simp only [PyData.depthAll]
    rcases List.mem_cons.mp h with z | z
    · subst z
      omega
    · have := depth_mem_le z
      omega
/-- a tuple of parts -/
theorem Md.tup {k W D : Nat} {ds : List PyData} (h1 : ds.length ≤ 50 + k) (h2 : ∀ d ∈ ds, okB k d = true) (h3 : PyData.weightAll ds ≤ W) (h4 : ∀ d ∈ ds, d.depth + 1 ≤ D) (h5 : 1 ≤ D) : Md k W D (.tuple ds) := by
  refine ⟨?_, h3, ?_⟩
  · simp only [okB, Bool.and_eq_true, decide_eq_true_eq]
    exact ⟨h1, okBAll_iff.mpr h2⟩
  · have := depth_le (M := D - 1) (ds := ds) fun d hd => by have := h4 d hd; omega
    simp only [PyData.depth]
    omega
theorem Md.lst {k W D : Nat} {ds : List PyData} (h1 : ds.length ≤ 50 + k) (h2 : ∀ d ∈ ds, okB k d = true) (h3 : PyData.weightAll ds ≤ W) (h4 : ∀ d ∈ ds, d.depth + 1 ≤ D) (h5 : 1 ≤ D) : Md k W D (.list ds) := by
  obtain ⟨a, b, c⟩ := Md.tup h1 h2 h3 h4 h5
  exact ⟨by simpa only [okB] using a, b, by simpa only [PyData.depth] using c⟩
theorem Md.parts {k W D : Nat} {ds : List PyData} (h : Md k W D (.tuple ds)) : ds.length ≤ 50 + k ∧ (∀ d ∈ ds, okB k d = true) ∧ PyData.weightAll ds ≤ W ∧ (∀ d ∈ ds, d.depth + 1 ≤ D) ∧ 1 ≤ D := by
  obtain ⟨a, b, c⟩ := h
  simp only [okB, Bool.and_eq_true, decide_eq_true_eq] at a
  simp only [PyData.depth] at c
  exact ⟨a.1, okBAll_iff.mp a.2, b, fun d hd => by have := depth_mem_le hd; omega, by omega⟩
theorem Md.mono {k W W' D D' : Nat} {d : PyData} (h : Md k W D d) (h1 : W ≤ W') (h2 : D ≤ D') : Md k W' D' d := ⟨h.ok, Nat.le_trans h.wt h1, Nat.le_trans h.dp h2⟩
theorem Md.up {k W D : Nat} {d : PyData} (h : Md k W D d) : Md (k + 1) W D d := ⟨okB_up _ h.ok, h.wt, h.dp⟩
mutual
theorem okB_sm {k : Nat} (hk : k ≤ 8) : ∀ d : PyData, okB k d = true → smQ d = true ∧ sm60 d = true ∧ d.showable = true ∧ PyData.leavesShort 64 d = true
  | .none, _ => by simp [smQ, sm60, PyData.showable, PyData.leavesShort]
  | .bool _, _ => by simp [smQ, sm60, PyData.showable, PyData.leavesShort]
  | .int i, h => by
    simp only [okB, decide_eq_true_eq] at h
    have h2 : i.natAbs < 10 ^ 31 := Nat.lt_of_le_of_lt (Nat.le_trans h (Nat.mul_le_mul_right bigN (show k + 1 ≤ 9 by omega))) (by decide +kernel)
    refine ⟨by simp [smQ], by simp [sm60], ?_, ?_⟩
    · simp only [PyData.showable, decide_eq_true_eq]
      have : i.natAbs < 2 ^ 1920 := Nat.lt_of_lt_of_le h2 (by decide +kernel)
      by_cases h0 : i.natAbs = 0
      · rw [h0]; decide +kernel
      · exact (Nat.log2_lt h0).mpr this
    · simp only [PyData.leavesShort, decide_eq_true_eq]
      have e := int_text_length_le10 (k := 31) (by decide) h2
      show (Str.ofString (toString i)).length ≤ 64
      rw [PySem.ofString_length]
      omega
  | .str x, h => by
    simp only [okB, Bool.and_eq_true, decide_eq_true_eq] at h
    refine ⟨by simp only [smQ, decide_eq_true_eq]; omega, by simp [sm60], by simp [PyData.showable], ?_⟩
    simp only [PyData.leavesShort]
    refine List.all_eq_true.mpr fun c hc => ?_
    have := of_decide_eq_true (List.all_eq_true.mp h.2 c hc)
    exact decide_eq_true (by omega)
  | .list xs, h => by
    simp only [okB, Bool.and_eq_true, decide_eq_true_eq] at h
    obtain ⟨a, b, c, d⟩ := okBAll_sm hk xs h.2
    refine ⟨by simp only [smQ, a, Bool.and_true, decide_eq_true_eq]; omega, by simp only [sm60, b, Bool.and_true, decide_eq_true_eq]; omega, by simpa only [PyData.showable] using c, by simpa only [PyData.leavesShort] using d⟩
  | .tuple xs, h => by
    simp only [okB, Bool.and_eq_true, decide_eq_true_eq] at h
    obtain ⟨a, b, c, d⟩ := okBAll_sm hk xs h.2
    refine ⟨by simp only [smQ, a, Bool.and_true, decide_eq_true_eq]; omega, by simp only [sm60, b, Bool.and_true, decide_eq_true_eq]; omega, by simpa only [PyData.showable] using c, by simpa only [PyData.leavesShort] using d⟩
  | .dict [], _ => by simp [smQ, sm60, PyData.showable, PyData.leavesShort, PyData.showableKv, PyData.leavesShortKv]
  | .dict (_ :: _), h => by simp [okB] at h
theorem okBAll_sm {k : Nat} (hk : k ≤ 8) : ∀ ds : List PyData, okBAll k ds = true → smQAll ds = true ∧ sm60.sm60All ds = true ∧ PyData.showableAll ds = true ∧ PyData.leavesShortAll 64 ds = true
  | [], _ => by simp [smQAll, sm60.sm60All, PyData.showableAll, PyData.leavesShortAll]
  | x :: r, h => by
    simp only [okBAll, Bool.and_eq_true] at h
    obtain ⟨a, b, c, d⟩ := okB_sm hk x h.1
    obtain ⟨a', b', c', d'⟩ := okBAll_sm hk r h.2
    simp only [smQAll, sm60.sm60All, PyData.showableAll, PyData.leavesShortAll, a, b, c, d, a', b', c', d', Bool.and_self, and_self]
end
theorem Md.shown {k W D : Nat} {d : PyData} (h : Md k W D d) (hk : k ≤ 8) (hW : W ≤ 200000) : d.shown.length ≤ sizeLine := by
  have h1 := PyData.shown_le 64 (by decide) d (okB_sm hk d h.ok).2.2.2
  have := h.wt
  rw [sizeLine_eq]
  omega
end L2

set_option Elab.async false
set_option linter.all false
set_option maxRecDepth 100000
set_option maxHeartbeats 4000000
/-! sizes. -/
namespace K02
open PySem L2 PySem.KX StX
structure Nc (D W : Nat) (d : PyData) : Prop where
  sh : d.showable = true
  nd : d.hasDict = false
  dp : d.depth ≤ D
  lv : PyData.leavesShort 64 d = true
  wt : d.weight ≤ W
  sm : smQ d = true
theorem nc_int {i : Int} (h : i.natAbs < 32) : Nc 0 5 (.int i) := by
  refine ⟨?_, by simp [PyData.hasDict], by simp [PyData.depth], ?_, ?_, by simp [smQ]⟩
  · simp only [PyData.showable, decide_eq_true_eq]
    by_cases h0 : i.natAbs = 0
    · rw [h0]; decide +kernel
    · exact (Nat.log2_lt h0).mpr (Nat.lt_of_lt_of_le h (by decide +kernel))
  · simp only [PyData.leavesShort, decide_eq_true_eq]
    have e := int_text_length_le10 (a := i) (k := 2) (by decide) (by omega)
    show (Str.ofString (toString i)).length ≤ 64
    rw [PySem.ofString_length]
    omega
  · simp only [PyData.weight]
    split
    · omega
    · by_cases h0 : i.natAbs = 0
      · rw [h0]; decide +kernel
      · have := (Nat.log2_lt h0).mpr (show i.natAbs < 2 ^ 5 by omega)
        omega
theorem nc_str {x : Str} (h : WordS x) : Nc 0 8 (.str x) := by
  have hl : x.cps.toList.length ≤ 8 := h.eight
  have hl2 : x.cps.size ≤ 8 := by rw [← Array.length_toList]; exact hl
  refine ⟨by simp [PyData.showable], by simp [PyData.hasDict], by simp [PyData.depth], ?_, by simp only [PyData.weight]; exact hl2, ?_⟩
  · simp only [PyData.leavesShort]
    refine List.all_eq_true.mpr fun c hc => ?_
    have := List.all_eq_true.mp h.low c hc
    refine decide_eq_true ?_
    unfold lowL at this
    simp at this
    omega
  · simp only [smQ, decide_eq_true_eq]
    show x.cps.size ≤ 100000
    omega
theorem Nc.tup {D W L : Nat} {ds : List PyData} (h : ∀ d ∈ ds, Nc D W d) (hl : ds.length ≤ L) (hL : L ≤ 100000) : Nc (D + 1) ((W + 1) * L) (.tuple ds) := by
  have go : ∀ es : List PyData, (∀ d ∈ es, Nc D W d) → PyData.showableAll es = true ∧ PyData.hasDictAll es = false ∧ PyData.depthAll es ≤ D ∧ PyData.leavesShortAll 64 es = true ∧ PyData.weightAll es ≤ (W + 1) * es.length ∧ smQAll es = true := fun es => by
    induction es with
    | nil => intro _; simp [PyData.showableAll, PyData.hasDictAll, PyData.depthAll, PyData.leavesShortAll, PyData.weightAll, smQAll]
    | cons d r ih =>
      intro h
      obtain ⟨a1, a2, a3, a4, a5, a6⟩ := ih fun e he => h e (List.mem_cons_of_mem _ he)
      obtain ⟨b1, b2, b3, b4, b5, b6⟩ := h d List.mem_cons_self
      simp only [PyData.showableAll, PyData.hasDictAll, PyData.depthAll, PyData.leavesShortAll, PyData.weightAll, smQAll, a1, a2, a4, a6, b1, b2, b4, b6, Bool.and_self, Bool.or_self, List.length_cons, Nat.mul_succ]
      refine ⟨trivial, trivial, by omega, trivial, by omega, trivial⟩
  obtain ⟨a1, a2, a3, a4, a5, a6⟩ := go ds h
  have h5 : (W + 1) * ds.length ≤ (W + 1) * L := Nat.mul_le_mul_left _ hl
  refine ⟨by simpa only [PyData.showable] using a1, by simpa only [PyData.hasDict] using a2, by simp only [PyData.depth]; omega, by simpa only [PyData.leavesShort] using a4, by simp only [PyData.weight]; omega, ?_⟩
  simp only [smQ, a6, Bool.and_true, decide_eq_true_eq]
  omega
theorem Nc.mono {D D' W W' : Nat} {d : PyData} (h : Nc D W d) (h1 : D ≤ D') (h2 : W ≤ W') : Nc D' W' d := ⟨h.sh, h.nd, by have := h.dp; omega, h.lv, by have := h.wt; omega, h.sm⟩
theorem Nc.shown {D W : Nat} {d : PyData} (h : Nc D W d) (hW : W ≤ 250000) : d.shown.length ≤ sizeLine := by
  have h1 := PyData.shown_le 64 (by decide) d h.lv
  have := h.wt
  rw [sizeLine_eq]
  omega
theorem nc_ints {n : Int} {ns : List Int} (h : GoodI n ns) (hn : n ≤ 30) : Nc 1 180 (tupI ns) := by
  have := Nc.tup (D := 0) (W := 5) (L := 30) (ds := ns.map PyData.int) (fun d hd => by
    obtain ⟨k, hk, rfl⟩ := List.mem_map.mp hd
    have := h.inn k hk
    exact nc_int (by omega)) (by rw [List.length_map]; exact h.few hn) (by decide)
  exact this
theorem nc_row {n : Int} {r : RowN} (h : GoodR n r) (hn : n ≤ 30) : Nc 2 543 (rowD r) := by
  have := Nc.tup (D := 1) (W := 180) (L := 3) (ds := [.str r.1, tupI r.2.1, tupI r.2.2]) (fun d hd => by
    rcases List.mem_cons.mp hd with rfl | hd
    · exact (nc_str h.w).mono (by decide) (by decide)
    · rcases List.mem_cons.mp hd with rfl | hd
      · exact nc_ints h.i hn
      · rw [List.mem_singleton.mp hd]; exact nc_ints h.o hn) (by simp) (by decide)
  exact this
theorem nc_net {n : Int} {rows : List RowN} (h : GoodN n rows) : Nc 4 43522 (netOf n rows) := by
  have h1 : Nc 3 21760 (.tuple (rows.map rowD)) := Nc.tup (D := 2) (W := 543) (L := 40) (fun d hd => by
    obtain ⟨r, hr, rfl⟩ := List.mem_map.mp hd
    exact nc_row (h.row r hr) h.hi) (by rw [List.length_map]; exact h.few) (by decide)
  have h2 := h.lo
  have h3 := h.hi
  exact Nc.tup (D := 3) (W := 21760) (L := 2) (ds := [.int n, .tuple (rows.map rowD)]) (fun d hd => by
    rcases List.mem_cons.mp hd with rfl | hd
    · exact (nc_int (by omega)).mono (by decide) (by decide)
    · rw [List.mem_singleton.mp hd]; exact h1) (by simp) (by decide)
theorem nc_lit (x : Str) (h : (x.cps.toList.all (fun c => decide (c < 128)) && decide (x.cps.size ≤ 8)) = true) : Nc 0 8 (.str x) := by
  rw [Bool.and_eq_true, decide_eq_true_eq] at h
  refine ⟨by simp [PyData.showable], by simp [PyData.hasDict], by simp [PyData.depth], ?_, by simp only [PyData.weight]; exact h.2, ?_⟩
  · simp only [PyData.leavesShort]
    refine List.all_eq_true.mpr fun c hc => decide_eq_true ?_
    have := of_decide_eq_true (List.all_eq_true.mp h.1 c hc)
    omega
  · simp only [smQ, decide_eq_true_eq]
    have := h.2
    show x.cps.size ≤ 100000
    omega
theorem nc_df {n : Int} {rows : List RowN} (hg : GoodN n rows) : ∀ r ∈ allL n rows, Nc 1 27 (rowT r) := fun r hr => by
  have two : ∀ {x : Str} {d : PyData}, (x.cps.toList.all (fun c => decide (c < 128)) && decide (x.cps.size ≤ 8)) = true → Nc 0 8 d → Nc 1 27 (.tuple [.str x, d]) := fun {x d} hx hd => (Nc.tup (D := 0) (W := 8) (L := 2) (fun e he => by
    rcases List.mem_cons.mp he with rfl | z
    · exact nc_lit x hx
    · rw [List.mem_singleton.mp z]; exact hd) (by simp) (by decide)).mono (by decide) (by decide)
  unfold allL at hr
  simp only [List.mem_append] at hr
  rcases hr with ((h | h) | h) | h | h
  · obtain ⟨q, hq, rfl⟩ := List.mem_map.mp h
    exact two (by decide +kernel) (nc_str (hg.row q (List.mem_filter.mp hq).1).w)
  · obtain ⟨q, hq, rfl⟩ := List.mem_map.mp h
    exact two (by decide +kernel) (nc_str (hg.row q (List.mem_filter.mp hq).1).w)
  · obtain ⟨i, _, hi⟩ := List.mem_flatMap.mp h
    unfold choicesAt at hi
    split at hi
    · rename_i r0 e0
      obtain ⟨q, hq, rfl⟩ := List.mem_map.mp hi
      have h0 := nc_str (hg.row r0 (List.mem_of_getElem? e0)).w
      have h1 := nc_str (hg.row q (List.mem_of_mem_drop (List.mem_filter.mp hq).1)).w
      exact Nc.tup (D := 0) (W := 8) (L := 3) (ds := [.str "choice", .str r0.1, .str q.1]) (fun e he => by
        rcases List.mem_cons.mp he with rfl | z
        · exact nc_lit _ (by decide +kernel)
        · rcases List.mem_cons.mp z with rfl | z
          · exact h0
          · rw [List.mem_singleton.mp z]; exact h1) (by simp) (by decide)
    · exact absurd hi List.not_mem_nil
  · obtain ⟨k, hk, rfl⟩ := List.mem_map.mp h
    obtain ⟨i, hi, rfl⟩ := List.mem_map.mp (List.mem_filter.mp hk).1
    have := List.mem_range.mp hi
    have h3 := hg.hi
    exact two (by decide +kernel) ((nc_int (by omega)).mono (by decide) (by decide))
  · obtain ⟨q, hq, rfl⟩ := List.mem_map.mp h
    exact two (by decide +kernel) (nc_str (hg.row q (List.mem_filter.mp hq).1).w)
theorem defs_len {n : Int} {rows : List RowN} (hg : GoodN n rows) : (defsL n rows).length ≤ 1750 := by
  obtain ⟨a, b, c⟩ := all_lens hg
  unfold defsL
  rw [(sortRows_perm _).length_eq]
  unfold allL
  rw [List.length_append, List.length_append]
  omega
theorem nc_defs {n : Int} {rows : List RowN} (hg : GoodN n rows) : Nc 2 49000 (.tuple ((defsL n rows).map rowT)) :=
  Nc.tup (D := 1) (W := 27) (L := 1750) (fun d hd => by
    obtain ⟨r, hr, rfl⟩ := List.mem_map.mp hd
    exact nc_df hg r ((sortRows_perm _).mem_iff.mp hr)) (by rw [List.length_map]; exact defs_len hg) (by decide)
theorem defs_df {n : Int} {rows : List RowN} : ∀ r ∈ defsL n rows, IsDf r := fun r hr => all_df r ((sortRows_perm _).mem_iff.mp hr)
end K02

set_option Elab.async false
set_option linter.all false
set_option maxRecDepth 100000
set_option maxHeartbeats 4000000
namespace K02
open PySem L2 PySem.KX StX
theorem pass0 {P : Program} {w : World} {X : Cx} : Passes (L2.CX P w) X E0 := fun pins σ H s e s' I h => by
  obtain ⟨_, _, _, _, _, _, _, _, _, _, _, _, z⟩ := h
  exact z.elim
theorem keys_dq {K : PySem.W.Frag} {H : Hp} : ∀ ks : List Key, DqAll K H (ks.map kV) (ks.map kD)
  | [] => .nil
  | .inl i :: r => .cons (.int i) (keys_dq r)
  | .inr x :: r => .cons (.str x) (keys_dq r)
theorem rows_dq {K : PySem.W.Frag} {H : Hp} : ∀ {ys : List V} {rs : List RowK}, RowsAt H ys rs → DqAll K H ys (rs.map rowT)
  | _, _, .nil => .nil
  | _, _, .cons h t => by
    obtain ⟨a, rfl, ha⟩ := h
    exact .cons (.tup (SqT.of ha) (keys_dq _)) (rows_dq t)
theorem df_head {r : RowK} (h : IsDf r) : ∃ a t, r = Sum.inr a :: t := by
  rcases h with ⟨x, rfl⟩ | ⟨x, rfl⟩ | ⟨x, x', rfl⟩ | ⟨x, rfl⟩ | ⟨x, rfl⟩ <;> exact ⟨_, _, rfl⟩
theorem notCh_head {a : Str} {t : RowK} : notCh (Sum.inr a :: t) = !decide (a = "choice") := by
  unfold notCh
  have e : ((Sum.inr a :: t : RowK).head? = some (Sum.inr "choice" : Key)) ↔ a = "choice" := ⟨fun z => Sum.inr.inj (Option.some.inj z), fun z => by rw [z]; rfl⟩
  rw [decide_eq_decide.mpr e]
theorem wd_net {K : PySem.W.Frag} {H : Hp} {v : V} {n : Int} {rows : List RowN} (h : Dq K H v (netOf n rows)) (hg : GoodN n rows) : Wd K H v (netOf n rows) := ⟨h, (nc_net hg).sm⟩
theorem defs_nil {n : Int} {rows : List RowN} : (allL n rows).isEmpty = decide ((defsL n rows).map rowT = []) := by
  have hl : (defsL n rows).length = (allL n rows).length := (sortRows_perm _).length_eq
  cases c : allL n rows with
  | nil =>
    rw [c] at hl
    have : defsL n rows = [] := List.length_eq_zero_iff.mp hl
    rw [this]
    rfl
  | cons x r =>
    rw [c] at hl
    cases d : defsL n rows with
    | nil => rw [d] at hl; simp at hl
    | cons y s => simp
theorem rows_lshaped {rs : List RowK} (h : ∀ r ∈ rs, ∀ k ∈ r, okK k = true) : SeqAt.shaped (.list (rs.map rowT)) = true := by
  have := rows_shapedT h
  unfold SeqAt.shaped at this ⊢
  simpa [PyData.canLay0, PyData.depth] using this
abbrev s_law_right : Stmt := top 40
abbrev N_rt : List Str := ["net", "held", "due", "other", "every", "told", "defect"]
theorem sc_law_right : FnScope N_rt ["net"] (defScope s_law_right) := ⟨rfl, rfl, rfl, by decide +kernel, rfl, by decide +kernel, by decide +kernel⟩
section
variable {P : Program} {w : World} {K : PySem.W.Frag} {mg : Str → Option Value} {base : Heap}
def spRight (K : PySem.W.Frag) : Sp := fun vs H Q _ => ∃ (v : V) (n : Int) (rows : List RowN), vs = [v] ∧ Dq K H v (netOf n rows) ∧ GoodN n rows ∧ ∀ H', Same H H' → Q (.bl true) H'
theorem ok_law_right {f cI : Addr} {fd : FuncData} (Fu : Fun K "_law_right" "_law_right" s_law_right f fd) (hrep : mg "repr" = none) (Onet_defects : Own P w K mg base (L2.CX P w) "net_defects" 7 ["net"] (spDefs K cI)) (Ois_workflow : Own P w K mg base CX0 "is_workflow" 6 ["value"] (spWf K)) (O_law_defects : Own P w K mg base CX0 "_law_defects" 2 ["net"] (spLdef K)) (O_law_backwards : Own P w K mg base CX0 "_law_backwards" 1 ["net"] (spBack K)) (O_law_turned : Own P w K mg base CX0 "_law_turned" 1 ["defects"] (spTurn K)) :
    FnG P w K mg base CX0 8 f fd ["net"] (spRight K) := by
  have nd := sc_law_right.nd
  refine okG Fu sc_law_right (fun vs H Q E h => ?_) (fun cdv A outer s H vs Q E hr h => ?_)
  · obtain ⟨_, _, _, rfl, _⟩ := h
    rfl
  · obtain ⟨v, n, rows, rfl, hv, hg, k⟩ := h
    have hrg : (A.deeper (PyProof.Rows.envOfC "_law_right" (defScope s_law_right) s.heap.objs.size f cdv)).guards = some [] := hr.g
    refine ⟨_, (pss_cons (ps_par (i := 1) (j := 2) (by rfl) nd rfl rfl (by decide) rfl rfl (pa_cons (pe_callB (call_reprW hr.units64 hrg) (by rfl) hrep (by decide +kernel) (pa_cons (av 0) pa_nil)) (pa_cons (pe_own O_law_defects hr (pa_cons (av 0) pa_nil) (by decide)) pa_nil)) (by rfl))
      (pss_cons (ps_if (PW.pt (pw_or (pt_cmpA (op_neA hr.units64) (pe_callB (call_reprW hr.units64 hrg) (by rfl) hrep (by decide +kernel) (pa_cons (pe_ownX Onet_defects hr pass0 (pa_cons (av 0) pa_nil) (by decide)) pa_nil)) (pe_callB (call_reprW hr.units64 hrg) (by rfl) hrep (by decide +kernel) (pa_cons (av 2) pa_nil))) (pw_or1 (pt_cmpA (op_neA hr.units64) (pe_callB (call_reprW hr.units64 hrg) (by rfl) hrep (by decide +kernel) (pa_cons (pe_own Ois_workflow hr (pa_cons (av 0) pa_nil) (by decide)) pa_nil)) (pe_callB (call_reprW hr.units64 hrg) (by rfl) hrep (by decide +kernel) (pa_cons (pe_cmpA (op_eqA hr.units64) (av 2) (pe_tupS pa_nil)) pa_nil)))))) (pss_one (ps_ret pe_bl)) pss_nil)
      (pss_cons (ps_set (i := 3) nd rfl (Or.inl rfl) (pe_own O_law_backwards hr (pa_cons (av 0) pa_nil) (by decide)))
      (pss_cons (ps_set (i := 4) nd rfl (Or.inl rfl) (pe_ownX Onet_defects hr pass0 (pa_cons (av 3) pa_nil) (by decide)))
      (pss_cons (ps_setLc (i := 5) (own := [("defect", 6)]) (by rfl) nd rfl rfl (sw_true rfl rfl rfl (by decide +kernel)) (pi_tup (av 4)) (blkOk_by (N := N_rt) (sc := defScope s_law_right) (by decide +kernel)) (fun _ _ _ _ _ => (pg_name (i := 6) nd rfl (Or.inl rfl))) (fun _ _ _ _ _ => (pts_one (show PT _ _ (aTest (tOp (rNeA K) (tOp (rIxA K) (aVar 6) (tC (.int 0))) (tC (.str "choice")))) from pt_cmpA (op_neA hr.units64) (pe_ixA (av 6) pe_int) pe_str))) (fun _ _ _ _ _ => (av 6)))
      (pss_one (ps_ret (pe_and (pe_cmpA (op_eqA hr.units64) (av 5) (pe_own O_law_turned hr (pa_cons (av 2) pa_nil) (by decide))) (pe_and (pe_cmpA (op_eqA hr.units64) (pe_callB (call_reprW hr.units64 hrg) (by rfl) hrep (by decide +kernel) (pa_cons (av 4) pa_nil)) (pe_callB (call_reprW hr.units64 hrg) (by rfl) hrep (by decide +kernel) (pa_cons (pe_own O_law_defects hr (pa_cons (av 3) pa_nil) (by decide)) pa_nil))) (pe_one (pe_cmpA (op_eqA hr.units64) (pe_callB (call_reprW hr.units64 hrg) (by rfl) hrep (by decide +kernel) (pa_cons (av 0) pa_nil)) (av 1)))))))))))), ?_⟩
    have N0 := nc_net hg
    have D0 := nc_defs hg
    have hg' := good_back hg
    have N1 := nc_net hg'
    have D1 := nc_defs hg'
    refine ⟨v, netOf n rows, rfl, .inl ⟨N0.nd, hv⟩, N0.sh, by have := N0.dp; omega, N0.shown (by decide), ?_⟩
    refine ⟨v, n, rows, rfl, hv, hg, fun a xs H1 s1 n1 l1 r1 => ?_⟩
    refine ⟨_, _, rfl, ?_⟩
    refine ⟨v, netOf n rows, rfl, wd_net (Dq.same s1 _ _ hv) hg, .inl ⟨n, rows, rfl, hg, fun a2 xs2 H2 s2 n2 l2 r2 => ?_⟩⟩
    refine ⟨.ref a2, .tuple ((defsL n rows).map rowT), rfl, .inl ⟨D0.nd, .tup (SqT.of l2) (rows_dq r2)⟩, D0.sh, by have := D0.dp; omega, D0.shown (by decide), ?_⟩
    refine ⟨.ref a, .tuple ((defsL n rows).map rowT), rfl, .inl ⟨D0.nd, .tup (SqT.of (s2 _ _ l1)) (rows_dq (r1.same s2))⟩, D0.sh, by have := D0.dp; omega, D0.shown (by decide), ?_⟩
    refine ite2 (fun c => ?_) (fun c => ?_)
    · exact absurd c (by simp)
    have s02 := s1.trans s2
    refine ⟨v, netOf n rows, rfl, wd_net (Dq.same s02 _ _ hv) hg, .inl ⟨n, rows, rfl, hg, fun H3 s3 => ?_⟩⟩
    have s03 := s02.trans s3
    have bshown : ∀ b : Bool, (PyData.bool b).shown.length ≤ sizeLine := fun b => by
      rw [sizeLine_eq]
      cases b
      · exact (by decide +kernel : (PyData.bool false).shown.length ≤ 16777216)
      · exact (by decide +kernel : (PyData.bool true).shown.length ≤ 16777216)
    refine ⟨.bl _, .bool _, rfl, .inl ⟨rfl, .bl _⟩, rfl, by simp [PyData.depth], bshown _, ?_⟩
    refine ⟨by simp, fun e4 H4 s4 n4 l4 => ?_⟩
    have s04 := s03.trans s4
    have la4 := (s3.trans s4) _ _ (s2 _ _ l1)
    refine ⟨.tuple ((defsL n rows).map rowT), .tuple [], .tup (SqT.of la4) (rows_dp (r1.same ((s2.trans s3).trans s4))), .tup (SqT.of l4) .nil, rows_shapedT (defs_ok hg), by decide +kernel, ?_⟩
    refine ⟨.bl _, .bool _, rfl, .inl ⟨rfl, .bl _⟩, rfl, by simp [PyData.depth], bshown _, ?_⟩
    rw [eqv_nilT, ← defs_nil]
    refine ite2 (fun c => ?_) (fun c => ?_)
    · exact absurd c (by simp)
    refine ⟨v, n, rows, rfl, Dq.same s04 _ _ hv, hg, fun b H5 s5 dqb => ?_⟩
    refine ⟨.ref b, netOf n (rows.map backR), rfl, wd_net dqb hg', .inl ⟨n, rows.map backR, rfl, hg', fun a3 xs3 H6 s6 n6 l6 r6 => ?_⟩⟩
    have hxl := rows_len r6
    have hdl := defs_len hg'
    refine ⟨a3, rfl, ⟨_, SqT.of l6⟩, fun D hD => ?_⟩
    refine lc_it (walk_tup (xs := xs3)) (fun t H' => ∃ c : List V, H' D = some (.lst c) ∧ RowsAt H' c (((defsL n (rows.map backR)).take t).filter notCh) ∧ c.length ≤ t ∧ ∀ b o, H6 b = some o → H' b = some o)
      ⟨[], upd_same, .nil, by simp, fun b o e => by rw [upd_ne (ne_of_none e hD)]; exact e⟩ (fun t H' _ ⟨_, _, _, _, kp⟩ => SqT.of (kp _ _ l6)) ?_ ?_
    · rintro t y Hx H7 ht ⟨c, hc, hcr, hcl, kp⟩ ⟨rfl, hy⟩
      obtain ⟨r, hr1, q, rfl, hq⟩ := paired_get r6 hy
      obtain ⟨a0, tl, rfl⟩ := df_head (defs_df r (List.mem_of_getElem? hr1))
      have hq7 := kp _ _ hq
      refine ⟨rfl, ?_⟩
      refine .inr ⟨_, .str a0, SqT.of hq7, (show atI (V.str a0 :: tl.map kV) ((0 : Nat) : Int) = some (V.str a0) from atI_nat rfl), ?_⟩
      refine ite2 (fun c5 => ?_) (fun c5 => ?_)
      · have c5' : notCh (Sum.inr a0 :: tl) = true := by rw [notCh_head]; exact c5
        refine ⟨c, hc, by rw [sizeLine_eq]; omega, c ++ [.ref q], upd_same, ?_, by simp; omega, fun b o e => ?_⟩
        · rw [take_filter hr1, if_pos c5']
          exact rows_upd hc (rows_snoc hcr ⟨q, rfl, hq7⟩)
        · rw [upd_ne (ne_of_none e hD)]
          exact kp _ _ e
      · have c5' : ¬ notCh (Sum.inr a0 :: tl) = true := by rw [notCh_head]; exact c5
        refine ⟨c, hc, ?_, by omega, kp⟩
        rw [take_filter hr1, if_neg c5', List.append_nil]
        exact hcr
    rintro H7 ⟨c, hc, hcr, hcl, kp⟩
    rw [hxl, List.take_length, told_eq hg] at hcr
    have s67 : Same H6 H7 := fun b o e => kp b o e
    have s27 : Same H2 H7 := (((s3.trans s4).trans s5).trans s6).trans s67
    have la7 := s27 _ _ (s2 _ _ l1)
    have r17 := r1.same (s2.trans s27)
    refine ⟨a, xs, _, rfl, SqT.of la7, r17, defs_df, by have := defs_len hg; omega, fun b2 ys H8 s8 n8 l8 r8 => ?_⟩
    have okt : ∀ r ∈ sortRows ((defsL n rows).flatMap tOf), ∀ k ∈ r, okK k = true := by
      rw [← told_eq hg]
      exact fun r hr => defs_ok hg' r (List.mem_filter.mp hr).1
    refine ⟨.list _, .list _, .lst (SqL.of (s8 _ _ hc)) (rows_dp (hcr.same s8)), .lst (SqL.of l8) (rows_dp r8), rows_lshaped okt, rows_lshaped okt, ?_⟩
    rw [SeqAt.eqv_refl _ (by simpa [PyData.canLay0] using rows_lay okt)]
    refine ⟨_, rfl, iteT ?_⟩
    have s28 := s27.trans s8
    have s68 := s67.trans s8
    have s58 := s6.trans s68
    refine ⟨.ref a3, .tuple ((defsL n (rows.map backR)).map rowT), rfl, .inl ⟨D1.nd, .tup (SqT.of (s68 _ _ l6)) (rows_dq (r6.same s68))⟩, D1.sh, by have := D1.dp; omega, D1.shown (by decide), ?_⟩
    refine ⟨.ref b, n, rows.map backR, rfl, Dq.same s58 _ _ dqb, hg', fun a4 xs4 H9 s9 n9 l9 r9 => ?_⟩
    refine ⟨.ref a4, .tuple ((defsL n (rows.map backR)).map rowT), rfl, .inl ⟨D1.nd, .tup (SqT.of l9) (rows_dq r9)⟩, D1.sh, by have := D1.dp; omega, D1.shown (by decide), ?_⟩
    refine ⟨_, rfl, ?_⟩
    rw [decide_eq_true rfl]
    refine iteT ?_
    have s09 := (s02.trans s28).trans s9
    refine ⟨v, netOf n rows, rfl, .inl ⟨N0.nd, Dq.same s09 _ _ hv⟩, N0.sh, by have := N0.dp; omega, N0.shown (by decide), ?_⟩
    have := k H9 s09
    have e : decide ((netOf n rows).shown = (netOf n rows).shown) = true := decide_eq_true rfl
    rw [← e] at this
    exact this
end
end K02

set_option Elab.async false
set_option linter.all false
set_option maxRecDepth 100000
set_option maxHeartbeats 4000000
/-! written nets. -/
namespace K02
open PySem L2 PySem.KX StX
/-! literals as data -/
section
variable {X : Cx}
def tLit (K : PySem.W.Frag) (d : PyData) : TE := fun _ H Q => ∀ v H', Same H H' → Dq K H' v d → Q v H'
def tLits (K : PySem.W.Frag) (ds : List PyData) : TA := fun _ H Q => ∀ vs H', Same H H' → DqAll K H' vs ds → Q vs H'
theorem _root_.L2.PA.imp {es : List Expr} {t t' : TA} (h : PA X es t) (k : ∀ σ H Q, t' σ H Q → t σ H Q) : PA X es t' := ⟨fun pos pins s σ H Q I q => h.run pos pins s σ H Q I (k σ H Q q)⟩
theorem pe_lint {i : Int} {pos : Pos} {j : Nat} : PE X (.Constant (.int i) j pos) (tLit X.K (.int i)) := pe_int.imp fun σ H Q h => h (.int i) H (Same.refl _) (.int i)
theorem pe_lstr {x : Str} {pos : Pos} {j : Nat} : PE X (.Constant (.str x) j pos) (tLit X.K (.str x)) := pe_str.imp fun σ H Q h => h (.str x) H (Same.refl _) (.str x)
theorem pa_lnil : PA X [] (tLits X.K []) := pa_nil.imp fun σ H Q h => h [] H (Same.refl _) .nil
theorem pa_lcons {e : Expr} {es : List Expr} {d : PyData} {ds : List PyData} (h : PE X e (tLit X.K d)) (k : PA X es (tLits X.K ds)) (hs : starEach (e :: es) X.env = (false, eval e X.env) :: starEach es X.env := by rfl) : PA X (e :: es) (tLits X.K (d :: ds)) :=
  (pa_cons h k hs).imp fun σ H Q q => fun v H1 s1 d1 => fun vs H2 s2 d2 => q (v :: vs) H2 (s1.trans s2) (.cons (Dq.same s2 _ _ d1) d2)
theorem pe_ltup {es : List Expr} {x1} {pos : Pos} {ds : List PyData} (h : PA X es (tLits X.K ds)) (hl : ds.length ≤ 1000 := by decide) : PE X (.Tuple es x1 pos) (tLit X.K (.tuple ds)) :=
  (pe_tupS h).imp fun σ H Q q => fun vs H1 s1 d1 => ⟨by rw [d1.length]; omega, fun p H2 s2 n2 l2 => q (.ref p) H2 (s1.trans s2) (.tup (SqT.of l2) (DqAll.same s2 _ _ d1))⟩
end
/-! what can be reached, computed -/
def stepC (rows : List RowN) (S : List Int) : List Int := S ++ (rows.filter fun r => r.2.1.any fun k => decide (k ∈ S)).flatMap fun r => r.2.2
def iterC (rows : List RowN) (b : Int) : Nat → List Int
  | 0 => [b]
  | t + 1 => stepC rows (iterC rows b t)
def closC (rows : List RowN) (S : List Int) : Bool := rows.all fun r => !(r.2.1.any fun k => decide (k ∈ S)) || r.2.2.all fun k => decide (k ∈ S)
theorem iterC_sound {rows : List RowN} {b : Int} : ∀ t, ∀ k ∈ iterC rows b t, Reach rows b k
  | 0, k, h => by rw [List.mem_singleton.mp h]; exact .base
  | t + 1, k, h => by
    rcases List.mem_append.mp h with z | z
    · exact iterC_sound t k z
    · obtain ⟨r, hr, hk⟩ := List.mem_flatMap.mp z
      obtain ⟨hr1, hr2⟩ := List.mem_filter.mp hr
      obtain ⟨j, hj, hjS⟩ := List.any_eq_true.mp hr2
      exact .step (iterC_sound t j (of_decide_eq_true hjS)) hr1 hj hk
theorem iterC_beg {rows : List RowN} {b : Int} : ∀ t, b ∈ iterC rows b t
  | 0 => List.mem_singleton.mpr rfl
  | t + 1 => List.mem_append_left _ (iterC_beg t)
theorem reachC {rows : List RowN} {b : Int} (t : Nat) (h : closC rows (iterC rows b t) = true) (k : Int) : reachB rows b k = decide (k ∈ iterC rows b t) := by
  unfold reachB
  refine decide_eq_decide.mpr ⟨Reach.least (S := fun k => k ∈ iterC rows b t) (iterC_beg t) fun r hr k hk hS j hj => ?_, iterC_sound t k⟩
  have := List.all_eq_true.mp h r hr
  rcases Bool.or_eq_true _ _ |>.mp this with z | z
  · have : (r.2.1.any fun k => decide (k ∈ iterC rows b t)) = true := List.any_eq_true.mpr ⟨k, hk, decide_eq_true hS⟩
    rw [this] at z
    cases z
  · exact of_decide_eq_true (List.all_eq_true.mp z j hj)
def badPC (rows : List RowN) (k : Int) : Bool := !decide (k ∈ iterC rows 0 5) || !decide (k ∈ iterC (rows.map flipR) 1 5)
def badRC (rows : List RowN) (r : RowN) : Bool := !(r.2.1.any fun k => decide (k ∈ iterC rows 0 5)) || !(r.2.2.any fun k => decide (k ∈ iterC (rows.map flipR) 1 5))
def allC (n : Int) (rows : List RowN) : List RowK := startsL rows ++ endsL rows ++ choicesL rows ++ ((((List.range n.toNat).map fun i : Nat => (i : Int)).filter (badPC rows)).map dPlace ++ (rows.filter (badRC rows)).map fun r => dStep r.1)
theorem all_is {n : Int} {rows : List RowN} (h1 : closC rows (iterC rows 0 5) = true) (h2 : closC (rows.map flipR) (iterC (rows.map flipR) 1 5) = true) : allL n rows = allC n rows := by
  have e1 : badP rows = badPC rows := by
    funext k
    unfold badP badPC
    rw [reachC 5 h1, reachC 5 h2]
  have e2 : badR rows = badRC rows := by
    funext r
    unfold badR badRC
    have a1 : reachB rows 0 = fun k => decide (k ∈ iterC rows 0 5) := by funext k; exact reachC 5 h1 k
    have a2 : reachB (rows.map flipR) 1 = fun k => decide (k ∈ iterC (rows.map flipR) 1 5) := by funext k; exact reachC 5 h2 k
    rw [a1, a2]
  unfold allL allC placesL stepsL
  rw [e1, e2]
theorem defs_is {n : Int} {rows : List RowN} {due : List RowK} (h1 : closC rows (iterC rows 0 5) = true) (h2 : closC (rows.map flipR) (iterC (rows.map flipR) 1 5) = true) (hp : @List.isPerm RowK instBEqOfDecidableEq (allC n rows) due = true) (hs : due.Pairwise fun a b => rowLe a b = true) : defsL n rows = due := by
  unfold defsL
  rw [all_is h1 h2]
  exact sorted_uniq (sortRows_sorted _) hs ((sortRows_perm _).trans ((@List.isPerm_iff RowK instBEqOfDecidableEq inferInstance _ _).mp hp))
def w1 : List RowN := [("a", [0], [2])]
def w2 : List RowN := [("a", [0], [1])]
def w3 : List RowN := [("a", [1], [0])]
def w5 : List RowN := [("a", [0], [2, 3]), ("b", [2, 3], [1]), ("c", [3], [1])]
def w6 : List RowN := [("a", [0], [1, 2]), ("b", [2], [2])]
theorem def1 : defsL 3 w1 = [dPlace 0, dPlace 1, dPlace 2, dStep "a"] := defs_is (by decide +kernel) (by decide +kernel) (by decide +kernel) (by decide +kernel)
theorem def2 : defsL 2 w2 = [] := defs_is (by decide +kernel) (by decide +kernel) (by decide +kernel) (by decide +kernel)
theorem def3 : defsL 2 w3 = [dEnd "a", dPlace 0, dPlace 1, dStart "a", dStep "a"] := defs_is (by decide +kernel) (by decide +kernel) (by decide +kernel) (by decide +kernel)
theorem def4 : defsL 3 w2 = [dPlace 2] := defs_is (by decide +kernel) (by decide +kernel) (by decide +kernel) (by decide +kernel)
theorem def5 : defsL 4 w5 = [dChoice "b" "c"] := defs_is (by decide +kernel) (by decide +kernel) (by decide +kernel) (by decide +kernel)
theorem def6 : defsL 3 w6 = [dPlace 2, dStep "b"] := defs_is (by decide +kernel) (by decide +kernel) (by decide +kernel) (by decide +kernel)
end K02

set_option Elab.async false
set_option linter.all false
set_option maxRecDepth 100000
set_option maxHeartbeats 4000000
namespace K02
open PySem L2 PySem.KX StX
def sideC (n : Int) (l : List Int) : Bool := !l.isEmpty && decide (l.Pairwise (· < ·)) && l.all fun k => decide (0 ≤ k ∧ k < n)
def wordC (x : Str) : Bool := decide (1 ≤ x.cps.toList.length) && decide (x.cps.toList.length ≤ 8) && x.cps.toList.all lowL
def rowC (n : Int) (r : RowN) : Bool := wordC r.1 && sideC n r.2.1 && sideC n r.2.2
theorem side_of {n : Int} {l : List Int} (h : sideC n l = true) : GoodI n l := by
  unfold sideC at h
  rw [Bool.and_eq_true, Bool.and_eq_true] at h
  obtain ⟨⟨h1, h2⟩, h3⟩ := h
  exact ⟨fun z => (by rw [z] at h1; cases h1), of_decide_eq_true h2, fun k hk => of_decide_eq_true (List.all_eq_true.mp h3 k hk)⟩
theorem word_of {x : Str} (h : wordC x = true) : WordS x := by
  unfold wordC at h
  rw [Bool.and_eq_true, Bool.and_eq_true] at h
  exact ⟨of_decide_eq_true h.1.1, of_decide_eq_true h.1.2, h.2⟩
def goodC (n : Int) (rows : List RowN) : Bool := (decide (2 ≤ n) && decide (n ≤ 30)) && (decide (1 ≤ rows.length) && decide (rows.length ≤ 40)) && (rows.all (rowC n) && decide (rows.Pairwise ltR))
theorem good_of {n : Int} {rows : List RowN} (h : goodC n rows = true) : GoodN n rows := by
  unfold goodC at h
  simp only [Bool.and_eq_true] at h
  obtain ⟨⟨⟨h1, h2⟩, h3, h4⟩, h5, h6⟩ := h
  refine ⟨of_decide_eq_true h1, of_decide_eq_true h2, of_decide_eq_true h3, of_decide_eq_true h4, fun r hr => ?_, of_decide_eq_true h6⟩
  have := List.all_eq_true.mp h5 r hr
  unfold rowC at this
  rw [Bool.and_eq_true, Bool.and_eq_true] at this
  exact ⟨word_of this.1.1, side_of this.1.2, side_of this.2⟩
def wn : List (Int × List RowN × List RowK) := [(3, w1, [dPlace 0, dPlace 1, dPlace 2, dStep "a"]), (2, w2, []), (2, w3, [dEnd "a", dPlace 0, dPlace 1, dStart "a", dStep "a"]), (3, w2, [dPlace 2]), (4, w5, [dChoice "b" "c"]), (3, w6, [dPlace 2, dStep "b"])]
def wnet (x : Int × List RowN × List RowK) : PyData := netOf x.1 x.2.1
def wdue (x : Int × List RowN × List RowK) : PyData := .tuple (x.2.2.map rowT)
theorem wn_ok : ∀ x ∈ wn, GoodN x.1 x.2.1 ∧ defsL x.1 x.2.1 = x.2.2 := fun x hx => by
  have hg : (wn.all fun x => goodC x.1 x.2.1) = true := by decide +kernel
  refine ⟨good_of (List.all_eq_true.mp hg x hx), ?_⟩
  unfold wn at hx
  rcases List.mem_cons.mp hx with rfl | hx
  · exact def1
  rcases List.mem_cons.mp hx with rfl | hx
  · exact def2
  rcases List.mem_cons.mp hx with rfl | hx
  · exact def3
  rcases List.mem_cons.mp hx with rfl | hx
  · exact def4
  rcases List.mem_cons.mp hx with rfl | hx
  · exact def5
  rw [List.mem_singleton.mp hx]
  exact def6
theorem wn_shaped : SeqAt.shaped (.list (wn.map wdue)) = true := by decide +kernel
/-! tuples stay where a list changes -/
mutual
def tupO : PyData → Bool
  | .tuple ds => tupOAll ds
  | .int _ => true
  | .str _ => true
  | .none => true
  | .bool _ => true
  | .list _ => false
  | .dict _ => false
def tupOAll : List PyData → Bool
  | [] => true
  | d :: ds => tupO d && tupOAll ds
end
theorem sqT_put {K : PySem.W.Frag} {H : Hp} {N a : Addr} {xs ys : List V} {o : HO} (hN : H N = some (.lst ys)) (h : SqT K H a xs) : SqT K (upd H N o) a xs :=
  Same.sqT (H := hide [N] H) (fun b u e => by
    obtain ⟨e1, e2⟩ := hide_of e
    rw [upd_ne (fun z => e2 (List.mem_singleton.mpr z))]
    exact e1) (sqT_hide hN h)
mutual
theorem dq_put {K : PySem.W.Frag} {H : Hp} {N : Addr} {ys : List V} {o : HO} (hN : H N = some (.lst ys)) : ∀ (d : PyData) (v : V), tupO d = true → Dq K H v d → Dq K (upd H N o) v d
  | .none, _, _, h => by cases h; exact .non
  | .bool b, _, _, h => by cases h; exact .bl b
  | .int i, _, _, h => by cases h; exact .int i
  | .str x, _, _, h => by cases h; exact .str x
  | .list ds, _, t, _ => by simp [tupO] at t
  | .dict ds, _, t, _ => by simp [tupO] at t
  | .tuple ds, _, t, h => by
    simp only [tupO] at t
    cases h with
    | tup hs ha => exact .tup (sqT_put hN hs) (dqAll_put hN ds _ t ha)
theorem dqAll_put {K : PySem.W.Frag} {H : Hp} {N : Addr} {ys : List V} {o : HO} (hN : H N = some (.lst ys)) : ∀ (ds : List PyData) (vs : List V), tupOAll ds = true → DqAll K H vs ds → DqAll K (upd H N o) vs ds
  | [], _, _, h => by cases h; exact .nil
  | d :: ds, _, t, h => by
    simp only [tupOAll, Bool.and_eq_true] at t
    cases h with
    | cons h1 h2 => exact .cons (dq_put hN d _ t.1 h1) (dqAll_put hN ds _ t.2 h2)
end
abbrev s_law_written_right : Stmt := top 42
abbrev N_wr : List Str := ["nets", "due", "net"]
theorem sc_law_written_right : FnScope N_wr [] (defScope s_law_written_right) := ⟨rfl, rfl, rfl, by decide +kernel, rfl, by decide +kernel, by decide +kernel⟩
section
variable {P : Program} {w : World} {K : PySem.W.Frag} {mg : Str → Option Value} {base : Heap}
def spWr : Sp := fun vs H Q _ => vs = [] ∧ ∀ H', Same H H' → Q (.bl true) H'
theorem ok_law_written_right {f cI : Addr} {fd : FuncData} (Fu : Fun K "_law_written_right" "_law_written_right" s_law_written_right f fd) (Onet_defects : Own P w K mg base (L2.CX P w) "net_defects" 7 ["net"] (spDefs K cI)) : FnG P w K mg base CX0 8 f fd [] spWr := by
  have nd := sc_law_written_right.nd
  refine okG Fu sc_law_written_right (fun vs H Q E h => ?_) (fun cdv A outer s H vs Q E hr h => ?_)
  · obtain ⟨rfl, _⟩ := h
    rfl
  · obtain ⟨rfl, k⟩ := h
    refine ⟨_, (pss_cons (ps_set (i := 0) nd rfl (by first | exact Or.inl rfl | exact Or.inr rfl) (pe_lstS (pa_lcons (pe_ltup (pa_lcons pe_lint (pa_lcons (pe_ltup (pa_lcons (pe_ltup (pa_lcons pe_lstr (pa_lcons (pe_ltup (pa_lcons pe_lint pa_lnil)) (pa_lcons (pe_ltup (pa_lcons pe_lint pa_lnil)) pa_lnil)))) pa_lnil)) pa_lnil))) (pa_lcons (pe_ltup (pa_lcons pe_lint (pa_lcons (pe_ltup (pa_lcons (pe_ltup (pa_lcons pe_lstr (pa_lcons (pe_ltup (pa_lcons pe_lint pa_lnil)) (pa_lcons (pe_ltup (pa_lcons pe_lint pa_lnil)) pa_lnil)))) pa_lnil)) pa_lnil))) (pa_lcons (pe_ltup (pa_lcons pe_lint (pa_lcons (pe_ltup (pa_lcons (pe_ltup (pa_lcons pe_lstr (pa_lcons (pe_ltup (pa_lcons pe_lint pa_lnil)) (pa_lcons (pe_ltup (pa_lcons pe_lint pa_lnil)) pa_lnil)))) pa_lnil)) pa_lnil))) (pa_lcons (pe_ltup (pa_lcons pe_lint (pa_lcons (pe_ltup (pa_lcons (pe_ltup (pa_lcons pe_lstr (pa_lcons (pe_ltup (pa_lcons pe_lint pa_lnil)) (pa_lcons (pe_ltup (pa_lcons pe_lint pa_lnil)) pa_lnil)))) pa_lnil)) pa_lnil))) pa_lnil))))))
      (pss_cons (ps_expr (pe_appS (av 0) (pe_ltup (pa_lcons pe_lint (pa_lcons (pe_ltup (pa_lcons (pe_ltup (pa_lcons pe_lstr (pa_lcons (pe_ltup (pa_lcons pe_lint pa_lnil)) (pa_lcons (pe_ltup (pa_lcons pe_lint (pa_lcons pe_lint pa_lnil))) pa_lnil)))) (pa_lcons (pe_ltup (pa_lcons pe_lstr (pa_lcons (pe_ltup (pa_lcons pe_lint (pa_lcons pe_lint pa_lnil))) (pa_lcons (pe_ltup (pa_lcons pe_lint pa_lnil)) pa_lnil)))) (pa_lcons (pe_ltup (pa_lcons pe_lstr (pa_lcons (pe_ltup (pa_lcons pe_lint pa_lnil)) (pa_lcons (pe_ltup (pa_lcons pe_lint pa_lnil)) pa_lnil)))) pa_lnil)))) pa_lnil)))))
      (pss_cons (ps_expr (pe_appS (av 0) (pe_ltup (pa_lcons pe_lint (pa_lcons (pe_ltup (pa_lcons (pe_ltup (pa_lcons pe_lstr (pa_lcons (pe_ltup (pa_lcons pe_lint pa_lnil)) (pa_lcons (pe_ltup (pa_lcons pe_lint (pa_lcons pe_lint pa_lnil))) pa_lnil)))) (pa_lcons (pe_ltup (pa_lcons pe_lstr (pa_lcons (pe_ltup (pa_lcons pe_lint pa_lnil)) (pa_lcons (pe_ltup (pa_lcons pe_lint pa_lnil)) pa_lnil)))) pa_lnil))) pa_lnil)))))
      (pss_cons (ps_set (i := 1) nd rfl (by first | exact Or.inl rfl | exact Or.inr rfl) (pe_lstS (pa_lcons (pe_ltup (pa_lcons (pe_ltup (pa_lcons pe_lstr (pa_lcons pe_lint pa_lnil))) (pa_lcons (pe_ltup (pa_lcons pe_lstr (pa_lcons pe_lint pa_lnil))) (pa_lcons (pe_ltup (pa_lcons pe_lstr (pa_lcons pe_lint pa_lnil))) (pa_lcons (pe_ltup (pa_lcons pe_lstr (pa_lcons pe_lstr pa_lnil))) pa_lnil))))) (pa_lcons (pe_ltup pa_lnil) pa_lnil))))
      (pss_cons (ps_expr (pe_appS (av 1) (pe_ltup (pa_lcons (pe_ltup (pa_lcons pe_lstr (pa_lcons pe_lstr pa_lnil))) (pa_lcons (pe_ltup (pa_lcons pe_lstr (pa_lcons pe_lint pa_lnil))) (pa_lcons (pe_ltup (pa_lcons pe_lstr (pa_lcons pe_lint pa_lnil))) (pa_lcons (pe_ltup (pa_lcons pe_lstr (pa_lcons pe_lstr pa_lnil))) (pa_lcons (pe_ltup (pa_lcons pe_lstr (pa_lcons pe_lstr pa_lnil))) pa_lnil))))))))
      (pss_cons (ps_expr (pe_appS (av 1) (pe_ltup (pa_lcons (pe_ltup (pa_lcons pe_lstr (pa_lcons pe_lint pa_lnil))) pa_lnil))))
      (pss_cons (ps_expr (pe_appS (av 1) (pe_ltup (pa_lcons (pe_ltup (pa_lcons pe_lstr (pa_lcons pe_lstr (pa_lcons pe_lstr pa_lnil)))) pa_lnil))))
      (pss_cons (ps_expr (pe_appS (av 1) (pe_ltup (pa_lcons (pe_ltup (pa_lcons pe_lstr (pa_lcons pe_lint pa_lnil))) (pa_lcons (pe_ltup (pa_lcons pe_lstr (pa_lcons pe_lstr pa_lnil))) pa_lnil)))))
      (pss_one (ps_ret (pe_cmpA (op_eqQ hr.units64) (pe_lc (own := [("net", 2)]) (by rfl) nd (pi_list (av 0)) (blkOk_by (N := N_wr) (sc := defScope s_law_written_right) (by decide +kernel)) (fun _ _ _ _ _ => (pg_name (i := 2) nd rfl (Or.inl rfl))) (fun _ _ _ _ _ => pts_nil) (fun _ _ _ _ _ => (show PE _ _ (tCall (spDefs K cI) [] E0 (tCons (aVar 2) tNil)) from pe_ownX Onet_defects hr pass0 (pa_cons (av 2) pa_nil) (by decide)))) (av 1)))))))))))), ?_⟩
    -- one more in a list
    have more : ∀ {H2 H3 : Hp} {N : Addr} {vs : List V} {ds : List PyData} {v : V} {d : PyData}, H2 N = some (.lst vs) → DqAll K H2 vs ds → tupOAll ds = true → Same H2 H3 → Dq K H3 v d → tupO d = true → DqAll K (upd H3 N (.lst (vs ++ [v]))) (vs ++ [v]) (ds ++ [d]) := fun {H2 H3 N vs ds v d} hN hd ht s hv htd =>
      dqAll_snoc (dqAll_put (s _ _ hN) _ _ ht (DqAll.same s _ _ hd)) (dq_put (s _ _ hN) _ _ htd hv)
    have sN : ∀ {H' : Hp} {N : Addr} {o : HO}, H N = none → Same H H' → Same H (upd H' N o) := fun {H' N o} n s b u e => by rw [upd_ne (ne_of_none e n)]; exact s b u e
    refine fun vn H1 s1 dn => ⟨by rw [dn.length]; decide, fun N H2 s2 n2 l2 => ?_⟩
    have nN : H N = none := s1.free n2
    refine ⟨N, _, rfl, l2, fun v5 H3 s3 d5 => ⟨_, s3 _ _ l2, by rw [dn.length]; decide, ?_⟩⟩
    have q4 : upd H3 N (.lst (vn ++ [v5])) N = some (.lst (vn ++ [v5])) := upd_same
    have a4 := more l2 (DqAll.same s2 _ _ dn) (by decide +kernel) s3 d5 (by decide +kernel)
    have s04 : Same H (upd H3 N (.lst (vn ++ [v5]))) := sN nN ((s1.trans s2).trans s3)
    generalize upd H3 N (.lst (vn ++ [v5])) = H4 at q4 a4 s04 ⊢
    generalize vn ++ [v5] = vn5 at q4 a4
    refine ⟨N, _, rfl, q4, fun v6 H5 s5 d6 => ⟨_, s5 _ _ q4, by rw [a4.length]; decide, ?_⟩⟩
    have q6 : upd H5 N (.lst (vn5 ++ [v6])) N = some (.lst (vn5 ++ [v6])) := upd_same
    have a6 := more q4 a4 (by decide +kernel) s5 d6 (by decide +kernel)
    have s06 : Same H (upd H5 N (.lst (vn5 ++ [v6]))) := sN nN (s04.trans s5)
    generalize upd H5 N (.lst (vn5 ++ [v6])) = H6 at q6 a6 s06 ⊢
    generalize vn5 ++ [v6] = vs at q6 a6
    have A6 : DqAll K H6 vs (wn.map wnet) := a6
    clear a6 a4 q4
    -- what is due
    refine fun du H7 s7 d7 => ⟨by rw [d7.length]; decide, fun U H8 s8 n8 l8 => ?_⟩
    have nU6 : H6 U = none := s7.free n8
    have nU : H U = none := s06.free nU6
    have s6U : ∀ {H' : Hp} {o : HO}, Same H6 H' → Same H6 (upd H' U o) := fun {H' o} s b u e => by rw [upd_ne (ne_of_none e nU6)]; exact s b u e
    refine ⟨U, _, rfl, l8, fun u1 H9 s9 e1 => ⟨_, s9 _ _ l8, by rw [d7.length]; decide, ?_⟩⟩
    have q10 : upd H9 U (.lst (du ++ [u1])) U = some (.lst (du ++ [u1])) := upd_same
    have b10 := more l8 (DqAll.same s8 _ _ d7) (by decide +kernel) s9 e1 (by decide +kernel)
    have s10 : Same H6 (upd H9 U (.lst (du ++ [u1]))) := s6U ((s7.trans s8).trans s9)
    generalize upd H9 U (.lst (du ++ [u1])) = H10 at q10 b10 s10 ⊢
    generalize du ++ [u1] = d1 at q10 b10
    refine ⟨U, _, rfl, q10, fun u2 H11 s11 e2 => ⟨_, s11 _ _ q10, by rw [b10.length]; decide, ?_⟩⟩
    have q12 : upd H11 U (.lst (d1 ++ [u2])) U = some (.lst (d1 ++ [u2])) := upd_same
    have b12 := more q10 b10 (by decide +kernel) s11 e2 (by decide +kernel)
    have s12 : Same H6 (upd H11 U (.lst (d1 ++ [u2]))) := s6U (s10.trans s11)
    generalize upd H11 U (.lst (d1 ++ [u2])) = H12 at q12 b12 s12 ⊢
    generalize d1 ++ [u2] = d2 at q12 b12
    refine ⟨U, _, rfl, q12, fun u3 H13 s13 e3 => ⟨_, s13 _ _ q12, by rw [b12.length]; decide, ?_⟩⟩
    have q14 : upd H13 U (.lst (d2 ++ [u3])) U = some (.lst (d2 ++ [u3])) := upd_same
    have b14 := more q12 b12 (by decide +kernel) s13 e3 (by decide +kernel)
    have s14 : Same H6 (upd H13 U (.lst (d2 ++ [u3]))) := s6U (s12.trans s13)
    generalize upd H13 U (.lst (d2 ++ [u3])) = H14 at q14 b14 s14 ⊢
    generalize d2 ++ [u3] = d3 at q14 b14
    refine ⟨U, _, rfl, q14, fun u4 H15 s15 e4 => ⟨_, s15 _ _ q14, by rw [b14.length]; decide, ?_⟩⟩
    have q16 : upd H15 U (.lst (d3 ++ [u4])) U = some (.lst (d3 ++ [u4])) := upd_same
    have b16 := more q14 b14 (by decide +kernel) s15 e4 (by decide +kernel)
    have s16 : Same H6 (upd H15 U (.lst (d3 ++ [u4]))) := s6U (s14.trans s15)
    generalize upd H15 U (.lst (d3 ++ [u4])) = H16 at q16 b16 s16 ⊢
    generalize d3 ++ [u4] = d4 at q16 b16
    have B16 : DqAll K H16 d4 (wn.map wdue) := b16
    clear b16 b14 b12 b10
    -- asked
    have hvl := A6.length
    rw [List.length_map] at hvl
    have q6' := s16 _ _ q6
    have w6 : wn.length = 6 := rfl
    refine ⟨N, rfl, ⟨_, SqL.of q6'⟩, fun D hD => ?_⟩
    have nD : H D = none := (s06.trans s16).free hD
    refine lc_it (walk_list (xs := vs)) (fun t H' => ∃ c : List V, H' D = some (.lst c) ∧ DqAll K H' c ((wn.take t).map wdue) ∧ c.length = t ∧ ∀ b o, H16 b = some o → H' b = some o)
      ⟨[], upd_same, .nil, rfl, fun b o e => by rw [upd_ne (ne_of_none e hD)]; exact e⟩ (fun t H' _ ⟨_, _, _, _, kp⟩ => SqL.of (kp _ _ q6')) ?_ ?_
    · rintro t y Hx H17 ht ⟨c, hc, hcd, hcl, kp⟩ ⟨rfl, hy⟩
      obtain ⟨d, hd, hdq⟩ := A6.get hy
      rw [List.getElem?_map] at hd
      cases e : wn[t]? with
      | none => rw [e] at hd; cases hd
      | some x =>
        rw [e] at hd
        cases hd
        obtain ⟨g1, g2⟩ := wn_ok x (List.mem_of_getElem? e)
        have s17 : Same H6 H17 := s16.trans fun b o e => kp b o e
        refine ⟨rfl, ?_⟩
        refine ⟨y, netOf x.1 x.2.1, rfl, wd_net (Dq.same s17 _ _ hdq) g1, .inl ⟨x.1, x.2.1, rfl, g1, fun a xs H18 s18 n18 l18 r18 => ?_⟩⟩
        rw [g2] at r18
        have hc18 := s18 _ _ hc
        refine ⟨c, hc18, by rw [sizeLine_eq, hcl]; omega, c ++ [.ref a], upd_same, ?_, by simp [hcl], fun b o e => ?_⟩
        · rw [List.take_add_one, e, List.map_append]
          have tO : ∀ l : List RowK, tupOAll (l.map rowT) = true := fun l => by
            have row : ∀ r : RowK, tupO (rowT r) = true := fun r => by
              show tupOAll (r.map kD) = true
              induction r with
              | nil => rfl
              | cons k r ih => cases k <;> simpa [tupOAll, tupO, kD] using ih
            induction l with
            | nil => rfl
            | cons r l ih => simp [tupOAll, row r, ih]
          have tAll : ∀ l : List (Int × List RowN × List RowK), tupOAll (l.map wdue) = true := fun l => by
            induction l with
            | nil => rfl
            | cons z l ih =>
              have : tupO (wdue z) = true := tO z.2.2
              simp [tupOAll, this, ih]
          refine dqAll_snoc (dqAll_put hc18 _ _ (tAll _) (DqAll.same s18 _ _ hcd)) (dq_put hc18 _ _ (show tupO (wdue x) = true from tO x.2.2) (.tup (SqT.of l18) (rows_dq r18)))
        · rw [upd_ne (ne_of_none e hD)]
          exact s18 _ _ (kp _ _ e)
    rintro H17 ⟨c, hc, hcd, hcl, kp⟩
    have s17 : Same H16 H17 := fun b o e => kp b o e
    rw [hvl, List.take_length] at hcd
    refine ⟨.list _, .list _, .lst (SqL.of hc) hcd, .lst (SqL.of (s17 _ _ q16)) (DqAll.same s17 _ _ B16), wn_shaped, wn_shaped, ?_⟩
    have := k H17 ((s06.trans s16).trans s17)
    rw [SeqAt.eqv_refl _ (by decide +kernel)]
    exact this
end
end K02

set_option Elab.async false
set_option linter.all false
set_option maxRecDepth 100000
set_option maxHeartbeats 4000000
namespace K02
open PySem L2 PySem.KX StX
mutual
theorem dq_map {K : PySem.W.Frag} {H H' : Hp} (T : ∀ a xs, SqT K H a xs → SqT K H' a xs) : ∀ (d : PyData) (v : V), tupO d = true → Dq K H v d → Dq K H' v d
  | .none, _, _, h => by cases h; exact .non
  | .bool b, _, _, h => by cases h; exact .bl b
  | .int i, _, _, h => by cases h; exact .int i
  | .str x, _, _, h => by cases h; exact .str x
  | .list ds, _, t, _ => by simp [tupO] at t
  | .dict ds, _, t, _ => by simp [tupO] at t
  | .tuple ds, _, t, h => by
    simp only [tupO] at t
    cases h with
    | tup hs ha => exact .tup (T _ _ hs) (dqAll_map T ds _ t ha)
theorem dqAll_map {K : PySem.W.Frag} {H H' : Hp} (T : ∀ a xs, SqT K H a xs → SqT K H' a xs) : ∀ (ds : List PyData) (vs : List V), tupOAll ds = true → DqAll K H vs ds → DqAll K H' vs ds
  | [], _, _, h => by cases h; exact .nil
  | d :: ds, _, t, h => by
    simp only [tupOAll, Bool.and_eq_true] at t
    cases h with
    | cons h1 h2 => exact .cons (dq_map T d _ t.1 h1) (dqAll_map T ds _ t.2 h2)
end
theorem tupO_ints (ns : List Int) : tupO (tupI ns) = true := by
  show tupOAll (ns.map PyData.int) = true
  induction ns with
  | nil => rfl
  | cons n r ih => simpa [tupOAll, tupO] using ih
theorem tupO_rows : ∀ rows : List RowN, tupOAll (rows.map rowD) = true
  | [] => rfl
  | r :: rows => by
    have h1 : tupO (rowD r) = true := by
      show tupOAll [.str r.1, tupI r.2.1, tupI r.2.2] = true
      simp only [tupOAll, tupO_ints, Bool.and_true]
      rfl
    simp [tupOAll, h1, tupO_rows rows]
theorem tupO_net (n : Int) (rows : List RowN) : tupO (netOf n rows) = true := by
  show tupOAll [.int n, .tuple (rows.map rowD)] = true
  have h : tupO (.tuple (rows.map rowD)) = true := by simpa only [tupO] using tupO_rows rows
  simp only [tupOAll, h, Bool.and_true]
  rfl
abbrev NetP := Int × List RowN
def netP (x : NetP) : PyData := netOf x.1 x.2
theorem tupO_nets : ∀ l : List NetP, tupOAll (l.map netP) = true
  | [] => rfl
  | x :: l => by
    have : tupO (netP x) = true := tupO_net _ _
    simp [tupOAll, this, tupO_nets l]
theorem sqT_nxt {K : PySem.W.Frag} {p a : Addr} {m : Int} {H H' : Hp} {xs : List V} (d : Dc p m H) (nx : Nxt p H H') (h : SqT K H a xs) : SqT K H' a xs := by
  have np : ∀ {o : HO}, H a = some o → (∀ ys, o ≠ .lst ys) → a ≠ p := fun {o} e z q => by
    obtain ⟨g, s, n, hp, _⟩ := d
    rw [q, hp] at e
    exact z _ (Option.some.inj e).symm
  rcases h with (hs | ⟨o, hs⟩) | hs
  · exact .inl (.inl (nx.get (np hs fun ys z => by cases z) hs))
  · exact .inl (.inr ⟨o, nx.get (np hs fun ys z => by cases z) hs⟩)
  · exact .inr hs
/-- the nets that are drawn -/
structure Ns (K : PySem.W.Frag) (p L : Addr) (H0 : Hp) (m : Int) (vs : List V) (nets : List NetP) (H : Hp) : Prop where
  S : H L = some (.lst vs)
  dq : DqAll K H vs (nets.map netP)
  good : ∀ x ∈ nets, GoodN x.1 x.2
  nx : Nxt p H0 H
  d : Dc p m H
  f : H0 L = none
  ne : L ≠ p
section
variable {K : PySem.W.Frag} {p L : Addr} {H0 H H' : Hp} {m m' : Int} {vs : List V} {nets : List NetP}
theorem Ns.go (h : Ns K p L H0 m vs nets H) (nx : Nxt p H H') (d : Dc p m' H') : Ns K p L H0 m' vs nets H' := ⟨nx.get h.ne h.S, dqAll_map (fun a xs => sqT_nxt h.d nx) _ _ (tupO_nets _) h.dq, h.good, h.nx.trans nx, d, h.f, h.ne⟩
theorem Ns.same (h : Ns K p L H0 m vs nets H) (s : Same H H') : Ns K p L H0 m vs nets H' := h.go (Nxt.of s) (h.d.same s)
theorem Ns.up (h : Ns K p L H0 m vs nets H) (l : m ≤ m') : Ns K p L H0 m' vs nets H := h.go Nxt.refl (h.d.mono l)
theorem Ns.add (h : Ns K p L H0 m vs nets H) {v : V} {n : Int} {rows : List RowN} (hv : Dq K H v (netOf n rows)) (hg : GoodN n rows) : Ns K p L H0 m (vs ++ [v]) (nets ++ [(n, rows)]) (upd H L (.lst (vs ++ [v]))) := by
  refine ⟨upd_same, ?_, fun x hx => ?_, h.nx.put h.f, h.d.upd h.ne, h.f, h.ne⟩
  · rw [List.map_append]
    exact dqAll_snoc (dqAll_put h.S _ _ (tupO_nets _) h.dq) (dq_put h.S _ _ (tupO_net _ _) hv)
  · rcases List.mem_append.mp hx with z | z
    · exact h.good x z
    · rw [List.mem_singleton.mp z]; exact hg
end
/-- a list of nets is none of what grows -/
theorem GrA.put {p L G q : Addr} {M : Nat} {H : Hp} {n : Int} {ys r ts : List V} {o : HO} (h : GrA p M H G n ys) (hL : H L = some (.lst (.ref q :: r))) (hq : H q = some (.tup ts)) : GrA p M (upd H L o) G n ys := by
  obtain ⟨St, gp, sp, eG, eS, h2, h1, hv⟩ := h
  have g1 : G ≠ L := fun z => by
    rw [z, hL] at eG
    exact V.noConfusion (List.cons.inj (HO.lst.inj (Option.some.inj eG))).1
  have g2 : St ≠ L := fun z => by
    rw [z, hL] at eS
    have e := HO.lst.inj (Option.some.inj eS)
    obtain ⟨a, _, _, ea, _, hac, _⟩ := hv (.ref q) (by rw [← e]; exact List.mem_cons_self)
    cases ea
    rw [hq] at hac
    cases hac
  refine ⟨St, gp, sp, by rw [upd_ne g1]; exact eG, by rw [upd_ne g2]; exact eS, h2, h1, fun v hm => ?_⟩
  obtain ⟨a, i, o', e, ha, hac, ⟨hi, ns, eI, r1⟩, ho, ms, eO, r2⟩ := hv v hm
  have a1 : a ≠ L := fun z => by
    rw [z, hL] at hac
    have e2 := HO.lst.inj (Option.some.inj hac)
    have e3 := V.ref.inj (List.cons.inj e2).1
    rw [← e3, hq] at eI
    cases eI
  have i1 : ∀ {b : Addr} {ks : List Int}, H b = some (.lst (ks.map V.int)) → b ≠ L := fun {b ks} eb z => by
    rw [z, hL] at eb
    have e2 := HO.lst.inj (Option.some.inj eb)
    cases ks with
    | nil => cases e2
    | cons k ks => exact V.noConfusion (List.cons.inj e2).1
  exact ⟨a, i, o', e, ha, by rw [upd_ne a1]; exact hac, ⟨hi, ns, by rw [upd_ne (i1 eI)]; exact eI, r1⟩, ho, ms, by rw [upd_ne (i1 eO)]; exact eO, r2⟩
theorem cut_toV (xs : List V) (k : Nat) : cutV xs none (some (k : Int)) = xs.take k := by
  unfold cutV
  rw [HT.sIx_none, HT.sIx_nat]
  rw [List.drop_zero]
  by_cases h : k ≤ xs.length
  · rw [Nat.min_eq_left h]
    first | rfl | simp
  · rw [Nat.min_eq_right (by omega)]
    first
    | rw [List.take_of_length_le (Nat.le_refl _), List.take_of_length_le (by omega)]
    | simp [List.take_of_length_le (show xs.length ≤ k by omega)]
theorem dqAll_gone {K : PySem.W.Frag} {H : Hp} : ∀ {xs : List V} {ds : List PyData}, DqAll K H xs ds → ∀ g : Nat, DqAll K H (xs.take g ++ xs.drop (g + 1)) (ds.take g ++ ds.drop (g + 1))
  | _, _, .nil, g => by simp; exact .nil
  | _, _, .cons h t, 0 => by simpa using t
  | _, _, .cons h t, g + 1 => by
    simp only [List.take_succ_cons, List.drop_succ_cons, List.cons_append]
    exact .cons h (dqAll_gone t g)
theorem good_gone {n : Int} {rows : List RowN} (hg : GoodN n rows) {g : Nat} (h : g < rows.length) (h1 : 1 < rows.length) : GoodN n (rows.take g ++ rows.drop (g + 1)) := by
  have e : rows.take g ++ rows.drop (g + 1) = rows.eraseIdx g := (List.eraseIdx_eq_take_drop_succ rows g).symm
  rw [e]
  have hl := List.length_eraseIdx_of_lt h
  refine ⟨hg.lo, hg.hi, by omega, by have := hg.few; omega, fun r hr => hg.row r (List.mem_of_mem_eraseIdx hr), hg.asc.sublist (List.eraseIdx_sublist rows g)⟩
abbrev slaw : Stmt := top 43
abbrev N_lw : List Str := ["script", "at", "dice", "nets", "grown", "places", "steps", "gone", "odd", "net"]
theorem sclaw : FnScope N_lw ["script"] (defScope slaw) := ⟨rfl, rfl, rfl, by decide +kernel, rfl, by decide +kernel, by decide +kernel⟩
structure TxtM2 (mg : Str → Option Value) : Prop where
  max : mg "max" = none
  min : mg "min" = none
abbrev loopB : List Stmt := match defBody slaw with
  | .For _ _ b _ _ :: _ => b
  | _ => []
section
variable {P : Program} {w : World} {K : PySem.W.Frag} {mg : Str → Option Value} {base : Heap}
abbrev X_lw (P : Program) (w : World) (K : PySem.W.Frag) (mg : Str → Option Value) (base : Heap) (f : Addr) (cdv : Value) (A : Around) (outer : List Env) (s : Shared) (H : Hp) (E : XK) : Cx := (cxOf CX0 P w K mg base N_lw "law" (defScope slaw) f cdv A outer s H E).nox
def spLaw (K : PySem.W.Frag) : Sp := fun vs H Q _ => ∃ (a : Addr) (ns : List Int), vs = [.ref a] ∧ SqL K H a (ns.map V.int) ∧ ns.length ≤ 63 ∧ ∀ H', Same H H' → Q (.bl true) H'
/-- what is still to be shown of a turn: its last statements -/
def LawRest (P : Program) (w : World) (K : PySem.W.Frag) (mg : Str → Option Value) (base : Heap) (f : Addr) (cdv : Value) (A : Around) (outer : List Env) (s : Shared) (Hh : Hp) (E : XK) : Prop :=
  ∀ {D : Ends} {p L G : Addr} {a : Addr} {H0 H : Hp} {m : Int} {vs : List V} {nets : List NetP} {n : Int} {rows : List RowN} {S : Addr} {xs : List V} {o1 o7 o8 o9 : Option V}, Ns K p L H0 m vs nets H → m + 10000 < 2 ^ 30 → GoodN n rows → SqT K H S xs → DqAll K H xs (rows.map rowD) →
    (∀ (o8 o9 : Option V) (H' : Hp), Nxt p H0 H' → D.nx [some (.ref a), o1, some (.ref p), some (.ref L), some (.ref G), some (.int n), some (.ref S), o7, o8, o9] H') →
    ∃ t, PSs (X_lw P w K mg base f cdv A outer s Hh E) (loopB.drop 8) t ∧ t D [some (.ref a), o1, some (.ref p), some (.ref L), some (.ref G), some (.int n), some (.ref S), o7, o8, o9] H
theorem ok_law {f : Addr} {fd : FuncData} (Fu : Fun K "law" "law" slaw f fd) (TX : TxtX mg) (TM : TxtM2 mg) (O_dice : Own P w K mg base CX0 "_law_dice" 1 ["script", "at"] (spDice K)) (O_roll : Own P w K mg base CX0 "_law_roll" 1 ["dice", "total"] spRollD) (O_any : Own P w K mg base CX0 "_law_any_net" 3 ["dice", "total"] (spAny K)) (O_aw : Own P w K mg base CX0 "_law_any_workflow" 4 ["dice", "turns"] (spAw K))
    (O_grown : Own P w K mg base CX0 "_law_grown" 3 ["dice", "turns"] spGrown) (O_fit : Own P w K mg base CX0 "_law_fitting" 1 ["grown"] spFit) (O_sp : Own P w K mg base CX0 "_law_spoilt" 3 ["dice", "grown"] spSpoilt) (O_net : Own P w K mg base CX0 "_law_net" 3 ["dice", "grown"] (spNet K)) (O_right : Own P w K mg base CX0 "_law_right" 8 ["net"] (spRight K)) (O_wr : Own P w K mg base CX0 "_law_written_right" 8 [] spWr)
    (rest : ∀ {cdv : Value} {A : Around} {outer : List Env} {s : Shared} {H : Hp} {E : XK}, RoomG 8 (A.deeper (PyProof.Rows.envOfC "law" (defScope slaw) s.heap.objs.size f cdv)) → LawRest P w K mg base f cdv A outer s H E) : FnG P w K mg base CX0 9 f fd ["script"] (spLaw K) := by
  have nd := sclaw.nd
  refine okG Fu sclaw (fun vs H Q E h => ?_) (fun cdv A outer s H vs Q E hr h => ?_)
  · obtain ⟨_, _, rfl, _⟩ := h
    rfl
  · obtain ⟨a, ns, rfl, hS, hlen, k⟩ := h
    have rest := @rest cdv A outer s H E hr
    refine ⟨_, (pss_cons (ps_for PassesOwn.never rfl (pi_range1 (by rfl) TX.range (pa_cons (pe_callB (call_maxA rfl) (by rfl) TM.max (by decide +kernel) (pa_cons pe_int (pa_cons (pe_callB (call_minA rfl) (by rfl) TM.min (by decide +kernel) (pa_cons pe_int (pa_cons (pe_callB call_lenA (by rfl) TX.len PySem.boot_len (pa_cons (av 0) pa_nil)) pa_nil))) pa_nil))) pa_nil)) (pg_name (i := 1) nd rfl (by first | exact Or.inl rfl | exact Or.inr rfl)) (pss_cons (ps_set (i := 2) nd rfl (by first | exact Or.inl rfl | exact Or.inr rfl) (pe_own O_dice hr (pa_cons (av 0) (pa_cons (av 1) pa_nil)) (by decide)))
      (pss_cons (ps_set (i := 3) nd rfl (by first | exact Or.inl rfl | exact Or.inr rfl) (pe_lstS (pa_cons (pe_own O_any hr (pa_cons (av 2) (pa_cons (pe_op op_addS pe_int (pe_own O_roll hr (pa_cons (av 2) (pa_cons (pe_ixA (pe_lstS (pa_cons pe_int (pa_cons pe_int (pa_cons pe_int pa_nil)))) (pe_own O_roll hr (pa_cons (av 2) (pa_cons pe_int pa_nil)) (by decide))) pa_nil)) (by decide))) pa_nil)) (by decide)) pa_nil)))
      (pss_cons (ps_expr (pe_appS (av 3) (pe_own O_aw hr (pa_cons (av 2) (pa_cons (pe_op op_addS pe_int (pe_own O_roll hr (pa_cons (av 2) (pa_cons pe_int pa_nil)) (by decide))) pa_nil)) (by decide))))
      (pss_cons (ps_set (i := 4) nd rfl (by first | exact Or.inl rfl | exact Or.inr rfl) (pe_own O_grown hr (pa_cons (av 2) (pa_cons (pe_op op_addS pe_int (pe_own O_roll hr (pa_cons (av 2) (pa_cons pe_int pa_nil)) (by decide))) pa_nil)) (by decide)))
      (pss_cut (ps_if (pt_valA (pe_own O_fit hr (pa_cons (av 4) pa_nil) (by decide))) (pss_cons (ps_expr (pe_appS (av 3) (pe_own O_net hr (pa_cons (av 2) (pa_cons (av 4) pa_nil)) (by decide))))
      (pss_one (ps_expr (pe_appS (av 3) (pe_own O_net hr (pa_cons (av 2) (pa_cons (pe_own O_sp hr (pa_cons (av 2) (pa_cons (pe_own O_sp hr (pa_cons (av 2) (pa_cons (av 4) pa_nil)) (by decide)) pa_nil)) (by decide)) pa_nil)) (by decide)))))) pss_nil)
      (pss_cons (ps_for PassesOwn.never rfl (pi_list (pe_slice sl_listS (av 3) po_none (po_some pe_int))) (pg_tup rfl (pgs_cons (pg_name (i := 5) nd rfl (by first | exact Or.inl rfl | exact Or.inr rfl)) (pgs_cons (pg_name (i := 6) nd rfl (by first | exact Or.inl rfl | exact Or.inr rfl)) pgs_nil))) (pss_cons (ps_set (i := 7) nd rfl (by first | exact Or.inl rfl | exact Or.inr rfl) (pe_own O_roll hr (pa_cons (av 2) (pa_cons (pe_callB call_lenA (by rfl) TX.len PySem.boot_len (pa_cons (av 6) pa_nil)) pa_nil)) (by decide)))
      (pss_one (ps_if (pt_cmpA op_gtA (pe_callB call_lenA (by rfl) TX.len PySem.boot_len (pa_cons (av 6) pa_nil)) pe_int) (pss_one (ps_expr (pe_appS (av 3) (pe_tupS (pa_cons (av 5) (pa_cons (pe_op op_addS (pe_slice sl_tupS (av 6) po_none (po_some (av 7))) (pe_slice sl_tupS (av 6) (po_some (pe_op op_addA (av 7) pe_int)) po_none)) pa_nil)))))) pss_nil))))
      (pss_cons (ps_if (pt_cmpA op_in_seq pe_bl (pe_lc (own := [("net", 9)]) (by rfl) nd (pi_list (av 3)) (blkOk_by (N := N_lw) (sc := defScope slaw) (by decide +kernel)) (fun _ _ _ _ _ => (pg_name (i := 9) nd rfl (by first | exact Or.inl rfl | exact Or.inr rfl))) (fun _ _ _ _ _ => pts_nil) (fun _ _ _ _ _ => (show PE _ _ (tCall (spRight K) [] E0 (tCons (aVar 9) tNil)) from pe_own O_right hr (pa_cons (av 9) pa_nil) (by decide))))) (pss_one (ps_ret pe_bl)) pss_nil)
      (pss_cons (ps_asg (pe_ixA (av 3) pe_int) (pg_tup rfl (pgs_cons (pg_name (i := 5) nd rfl (by first | exact Or.inl rfl | exact Or.inr rfl)) (pgs_cons (pg_name (i := 6) nd rfl (by first | exact Or.inl rfl | exact Or.inr rfl)) pgs_nil))))
      pss_any)))))))))
      (pss_one (ps_ret (pe_own0 O_wr hr (by decide))))), ?_⟩
    refine .inl ⟨_, hS, ?_⟩
    refine ⟨_, rfl, ?_, ?_, for_range (fun i σ H' => ∃ o1 o2 o3 o4 o5 o6 o7 o8 o9 : Option V, σ = [some (.ref a), o1, o2, o3, o4, o5, o6, o7, o8, o9] ∧ Same H H') ⟨_, _, _, _, _, _, _, _, _, rfl, Same.refl _⟩ ?_ ?_⟩
    · split <;> split <;> omega
    · split <;> split <;> omega
    · rintro i σ H1 hi ⟨o1, o2, o3, o4, o5, o6, o7, o8, o9, rfl, s1⟩
      have hi6 : i < 6 := by
        revert hi
        split <;> split <;> omega
      refine ⟨a, ns, i, by simp, s1.sqL hS, hlen, by omega, fun H2 p g sd s2 n2 l2 g0 s0 s61 => ?_⟩
      have dc2 : Dc p 0 H2 := ⟨g, sd, 0, l2, g0, s0, s61, by omega, by omega⟩
      have np : H p = none := s1.free n2
      -- what stays at the end of a turn
      have back : ∀ {H' : Hp}, Nxt p H2 H' → Same H H' := fun {H'} nx b o e => nx.get (ne_of_none e np) (s2 _ _ (s1 _ _ e))
      -- any net
      refine ⟨by simp, fun p3 H3 s3 n3 l3 => ?_⟩
      refine ⟨p, _, _, rfl, dc2.same s3, by decide, by decide, by decide, fun r H4 r0 r1 dc4 e4 => ?_⟩
      have hp3 : p3 ≠ p := dc2.ne n3
      have l4 : H4 p3 = some (.lst [.int 3, .int 8, .int 40]) := (e4 p3 hp3).trans l3
      obtain ⟨j, rfl⟩ : ∃ j : Nat, r = (j : Int) := ⟨r.toNat, by omega⟩
      have hj : j < 3 := by omega
      obtain ⟨u, hu, hu1, hu8⟩ : ∃ u : Nat, ([V.int 3, V.int 8, V.int 40] : List V)[j]? = some (V.int u) ∧ 1 ≤ u ∧ u ≤ 40 := by
        match j, hj with
        | 0, _ => exact ⟨3, rfl, by decide, by decide⟩
        | 1, _ => exact ⟨8, rfl, by decide, by decide⟩
        | 2, _ => exact ⟨40, rfl, by decide, by decide⟩
      refine .inl ⟨_, .int u, SqL.of l4, atI_nat hu, ?_⟩
      refine ⟨p, _, _, rfl, dc4, by omega, by omega, by omega, fun r2 H5 r20 r21 dc5 e5 => ?_⟩
      obtain ⟨t, rfl⟩ : ∃ t : Nat, r2 = (t : Int) := ⟨r2.toNat, by omega⟩
      have nx5 : Nxt p H2 H5 := ((Nxt.of s3).trans (Nxt.of_eq e4)).trans (Nxt.of_eq e5)
      refine ⟨p, _, 1 + t, by rw [show (1 + (t : Int)) = ((1 + t : Nat) : Int) by omega]; rfl, dc5, by omega, by omega, by omega, fun n rows v ts6 H6 hg6 hl6 nx6 dc6 dq6 lt6 => ?_⟩
      refine ⟨by simp, fun L H7 s7 n7 l7 => ?_⟩
      have hLp : L ≠ p := dc6.ne n7
      have nx26 := nx5.trans nx6
      have N7 : Ns K p L H2 2003 [.ref v] [(n, rows)] H7 := ⟨l7, .cons (Dq.same s7 _ _ (Dq.same hide_sub _ _ dq6)) .nil, fun x hx => by rw [List.mem_singleton.mp hx]; exact hg6, nx26.trans (Nxt.of s7), (dc6.same s7).mono (by omega), nx26.free hLp n7, hLp⟩
      -- a workflow
      refine ⟨L, _, rfl, N7.S, ?_⟩
      refine ⟨p, _, _, rfl, N7.d, by decide, by decide, by decide, fun r3 H8 r30 r31 dc8 e8 => ?_⟩
      obtain ⟨t3, rfl⟩ : ∃ t : Nat, r3 = (t : Int) := ⟨r3.toNat, by omega⟩
      have N8 := N7.go (Nxt.of_eq e8) dc8
      refine ⟨p, _, 1 + t3, by rw [show (1 + (t3 : Int)) = ((1 + t3 : Nat) : Int) by omega]; rfl, dc8, by omega, by omega, fun n2' rows2 v2 ts9 H9 hg9 nx9 dc9 dq9 lt9 => ?_⟩
      have N9 := N8.go nx9 dc9
      refine ⟨_, N9.S, by simp, ?_⟩
      have N10 := N9.add (Dq.same hide_sub _ _ dq9) hg9
      have lv10 : v ≠ p → v ≠ L → ∀ {o : HO}, H9 v = some o → upd H9 L (.lst ([.ref v] ++ [.ref v2])) v = some o := fun _ hL {o} e => by rw [upd_ne hL]; exact e
      generalize upd H9 L (.lst ([.ref v] ++ [.ref v2])) = H10 at N10 lv10 ⊢
      -- what grows
      refine ⟨p, _, _, rfl, N10.d, by decide, by decide, by decide, fun r4 H11 r40 r41 dc11 e11 => ?_⟩
      obtain ⟨t4, rfl⟩ : ∃ t : Nat, r4 = (t : Int) := ⟨r4.toNat, by omega⟩
      have N11 := N10.go (Nxt.of_eq e11) dc11
      refine ⟨p, _, 1 + t4, by rw [show (1 + (t4 : Int)) = ((1 + t4 : Nat) : Int) by omega]; rfl, dc11, by omega, by omega, fun G n3' ys H12 nx12 dc12 g12 hn12 hl12 => ?_⟩
      have N12 := N11.go nx12 dc12
      -- the first net is a new tuple
      have hvp : v ≠ p := fun z => by
        obtain ⟨g', s', n', e', _⟩ := dc6
        rw [z, e'] at lt6
        cases lt6
      have hvL : v ≠ L := fun z => by rw [z, n7] at lt6; cases lt6
      have lv12 : H12 v = some (.tup ts6) := nx12.get hvp ((e11 v hvp).trans (lv10 hvp hvL (nx9.get hvp ((e8 v hvp).trans (s7 _ _ lt6)))))
      refine ⟨fun σ H' => ∃ (vs : List V) (nets : List NetP), σ = [some (.ref a), some (.int (0 + i)), some (.ref p), some (.ref L), some (.ref G), o5, o6, o7, o8, o9] ∧ Ns K p L H2 6000 vs nets H' ∧ 1 ≤ vs.length ∧ vs.length ≤ 4, ?_, ?_⟩
      · refine ⟨p, G, _, n3', ys, rfl, g12, ?_⟩
        refine ite2 (fun c => ?_) (fun c => ?_)
        · have c2 := of_decide_eq_true c
          refine ⟨L, _, rfl, N12.S, ?_⟩
          refine ⟨p, G, _, _, n3', ys, rfl, N12.d, by decide, g12, by decide, by omega, by omega, fun rows4 v4 ts13 H13 hg13 nx13 dc13 dq13 lt13 => ?_⟩
          have N13 := N12.go nx13 dc13
          refine ⟨_, N13.S, by simp, ?_⟩
          have N14 := N13.add (Dq.same hide_sub _ _ dq13) hg13
          have g14 := (g12.nx nx13).put (o := .lst ([.ref v] ++ [.ref v2] ++ [.ref v4])) N13.S (nx13.get hvp lv12)
          generalize upd H13 L (.lst ([.ref v] ++ [.ref v2] ++ [.ref v4])) = H14 at N14 g14 ⊢
          refine ⟨L, _, rfl, N14.S, ?_⟩
          refine ⟨p, G, _, _, n3', ys, rfl, N14.d, by decide, g14, by decide, by omega, by omega, fun G15 ys15 H15 nx15 dc15 g15 hl15 => ?_⟩
          have N15 := N14.go nx15 dc15
          refine ⟨p, G15, _, _, n3', ys15, rfl, N15.d, by decide, g15, by decide, by omega, by omega, fun G16 ys16 H16 nx16 dc16 g16 hl16 => ?_⟩
          have N16 := N15.go nx16 dc16
          refine ⟨p, G16, _, _, n3', ys16, rfl, N16.d, by decide, g16, by decide, by omega, by omega, fun rows5 v5 ts17 H17 hg17 nx17 dc17 dq17 lt17 => ?_⟩
          have N17 := N16.go nx17 dc17
          refine ⟨_, N17.S, by simp, ?_⟩
          exact ⟨_, _, rfl, (N17.add (Dq.same hide_sub _ _ dq17) hg17).up (by decide), by simp, by simp⟩
        · exact ⟨_, _, rfl, N12.up (by decide), by simp, by simp⟩
      rintro σ H18 ⟨vs, nets, rfl, N18, hv1, hv4⟩
      -- one step less
      refine ⟨4, rfl, L, vs, rfl, SqL.of N18.S, fun C H19 s19 n19 l19 => ?_⟩
      have ecut : cutV vs none (some 4) = vs.take 4 := cut_toV vs 4
      rw [ecut, List.take_of_length_le hv4] at l19
      have N19 := N18.same s19
      have hCp : C ≠ p := N18.d.ne n19
      have hCL : C ≠ L := fun z => by rw [z, N18.S] at n19; cases n19
      have hvn : vs.length = nets.length := by have := N18.dq.length; rw [List.length_map] at this; exact this
      refine ⟨C, rfl, ⟨_, SqL.of l19⟩, ?_⟩
      refine for_it (walk_list (xs := vs)) (fun j σ H' => ∃ (vs2 : List V) (nets2 : List NetP) (o5 o6 o7 : Option V), σ = [some (.ref a), some (.int (0 + i)), some (.ref p), some (.ref L), some (.ref G), o5, o6, o7, o8, o9] ∧ Ns K p L H2 (6000 + j) vs2 nets2 H' ∧ H' C = some (.lst vs) ∧ DqAll K H' vs (nets.map netP) ∧ vs2.length ≤ 4 + j ∧ 1 ≤ vs2.length)
        ⟨vs, nets, _, _, _, rfl, N19.up (by omega), l19, N19.dq, by omega, hv1⟩ (fun j σ H' _ ⟨_, _, _, _, _, _, _, h, _⟩ => SqL.of h) ?_ ?_
      · rintro j y σ Hx H20 hj ⟨vs2, nets2, p5, p6, p7, rfl, N20, hC20, hd20, hl20, hl20'⟩ ⟨rfl, hyy⟩
        obtain ⟨d, hd, hdq⟩ := hd20.get hyy
        obtain ⟨x, hx, rfl⟩ : ∃ x, nets[j]? = some x ∧ netP x = d := by
          rw [List.getElem?_map] at hd
          cases e : nets[j]? with
          | none => rw [e] at hd; cases hd
          | some x => rw [e] at hd; exact ⟨x, rfl, Option.some.inj hd⟩
        obtain ⟨nx', rowsx⟩ := x
        have gx : GoodN nx' rowsx := N18.good _ (List.mem_of_getElem? hx)
        obtain ⟨na, S, xs, rfl, hna, hSx, hxs⟩ := net_at hdq
        have hxl : xs.length = rowsx.length := by
          have := hxs.length
          rw [List.length_map] at this
          exact this
        have hone := gx.one
        have hfew := gx.few
        refine ⟨na, _, rfl, hna, rfl, _, _, rfl, _, _, rfl, rfl, ?_⟩
        refine .inr ⟨_, hSx, ?_⟩
        refine ⟨p, _, _, rfl, N20.d, by omega, by omega, by omega, fun g' H21 g0' g1' dc21 e21 => ?_⟩
        obtain ⟨g1, rfl⟩ : ∃ g1 : Nat, g' = (g1 : Int) := ⟨g'.toNat, by omega⟩
        have N21 := N20.go (Nxt.of_eq e21) dc21
        have hC21 : H21 C = some (.lst vs) := (e21 C hCp).trans hC20
        have T21 : ∀ a xs, SqT K H20 a xs → SqT K H21 a xs := fun a xs => sqT_nxt N20.d (Nxt.of_eq e21)
        have hd21 := dqAll_map T21 _ _ (tupO_nets _) hd20
        refine .inr ⟨_, T21 _ _ hSx, ?_⟩
        refine ite2 (fun c => ?_) (fun c => ?_)
        · have c' : (1 : Int) < (xs.length : Int) := of_decide_eq_true c
          refine ⟨L, vs2, rfl, N21.S, ?_⟩
          refine ⟨(g1 : Int), rfl, S, xs, rfl, T21 _ _ hSx, fun S3 H22 s22 h22 => ?_⟩
          rw [cut_toV] at h22
          refine ⟨(g1 : Int) + 1, rfl, S, xs, rfl, s22.sqT (T21 _ _ hSx), fun S4 H23 s23 h23 => ?_⟩
          have ec2 : cutV xs (some ((g1 : Int) + 1)) none = xs.drop (g1 + 1) := cut_fromV xs (g1 + 1)
          rw [ec2] at h23
          refine .inr ⟨_, _, s23.sqT h22, h23, by rw [List.length_take, List.length_drop]; omega, fun S5 H24 s24 h24 => ?_⟩
          refine ⟨by simp, fun q25 H25 s25 n25 l25 => ?_⟩
          have s2125 := ((s22.trans s23).trans s24).trans s25
          have N25 := N21.same s2125
          refine ⟨vs2, N25.S, by omega, ?_⟩
          have hxs25 : DqAll K H25 xs (rowsx.map rowD) := DqAll.same s2125 _ _ (dqAll_map T21 _ _ (tupO_rows _) hxs)
          have htake : DqAll K H25 (xs.take g1 ++ xs.drop (g1 + 1)) ((rowsx.take g1 ++ rowsx.drop (g1 + 1)).map rowD) := by
            rw [List.map_append, List.map_take, List.map_drop]
            exact dqAll_gone hxs25 g1
          have dnew : Dq K H25 (.ref q25) (netOf nx' (rowsx.take g1 ++ rowsx.drop (g1 + 1))) := .tup (SqT.of l25) (.cons (.int _) (.cons (.tup (s25.sqT h24) htake) .nil))
          have ggone : GoodN nx' (rowsx.take g1 ++ rowsx.drop (g1 + 1)) := good_gone gx (by omega) (by omega)
          refine ⟨_, _, _, _, _, rfl, (N25.add dnew ggone).up (by omega), by rw [upd_ne hCL]; exact s2125 _ _ hC21, dqAll_put N25.S _ _ (tupO_nets _) (DqAll.same s2125 _ _ hd21), by simp; omega, by simp⟩
        · exact ⟨vs2, nets2, _, _, _, rfl, N21.up (by omega), hC21, hd21, by omega, hl20'⟩
      rintro σ H20 ⟨vs2, nets2, p5, p6, p7, rfl, N20, hC20, hd20, hl20, hl20'⟩
      -- asked
      have hvn2 : vs2.length = nets2.length := by have := N20.dq.length; rw [List.length_map] at this; exact this
      refine ⟨L, rfl, ⟨_, SqL.of N20.S⟩, fun D5 hD5 => ?_⟩
      refine lc_it (walk_list (xs := vs2)) (fun t H' => H' D5 = some (.lst (List.replicate t (V.bl true))) ∧ ∀ b o, H20 b = some o → H' b = some o)
        ⟨upd_same, fun b o e => by rw [upd_ne (ne_of_none e hD5)]; exact e⟩ (fun t H' _ ⟨_, kp⟩ => SqL.of (kp _ _ N20.S)) ?_ ?_
      · rintro t y Hx H21 ht ⟨hD, kp⟩ ⟨rfl, hy⟩
        obtain ⟨d, hd, hdq⟩ := N20.dq.get hy
        obtain ⟨x, hx, rfl⟩ : ∃ x, nets2[t]? = some x ∧ netP x = d := by
          rw [List.getElem?_map] at hd
          cases e : nets2[t]? with
          | none => rw [e] at hd; cases hd
          | some x => rw [e] at hd; exact ⟨x, rfl, Option.some.inj hd⟩
        have s21 : Same H20 H21 := fun b o e => kp b o e
        refine ⟨rfl, ?_⟩
        refine ⟨y, x.1, x.2, rfl, Dq.same s21 _ _ hdq, N20.good _ (List.mem_of_getElem? hx), fun H22 s22 => ?_⟩
        refine ⟨_, s22 _ _ hD, by rw [List.length_replicate, sizeLine_eq]; omega, by rw [upd_same]; congr 2; exact (List.replicate_succ' (n := t) (a := V.bl true)).symm, fun b o e => ?_⟩
        rw [upd_ne (ne_of_none e hD5)]
        exact s22 _ _ (kp _ _ e)
      rintro H21 ⟨hD21, kp21⟩
      have s21 : Same H20 H21 := fun b o e => kp21 b o e
      have N21 := N20.same s21
      have flat : ∀ t : Nat, (List.replicate t (V.bl true)).all flatV = true := fun t => List.all_eq_true.mpr fun v hv => by rw [List.eq_of_mem_replicate hv]; rfl
      have nin : ∀ t : Nat, inV (.bl false) (List.replicate t (V.bl true)) = false := fun t => by
        unfold inV
        exact List.any_eq_false.mpr fun v hv => by rw [List.eq_of_mem_replicate hv]; decide
      refine ⟨D5, _, rfl, .inl (SqL.of hD21), rfl, flat _, ?_⟩
      rw [if_neg (c := (false : Bool) = true) (by decide), nin]
      refine iteF ?_
      -- the first net once more
      obtain ⟨v0, hv0⟩ : ∃ v0, vs2[0]? = some v0 := ⟨_, List.getElem?_eq_getElem (by omega)⟩
      obtain ⟨d, hd, hdq⟩ := N21.dq.get hv0
      obtain ⟨x, hx, rfl⟩ : ∃ x, nets2[0]? = some x ∧ netP x = d := by
        rw [List.getElem?_map] at hd
        cases e : nets2[0]? with
        | none => rw [e] at hd; cases hd
        | some x => rw [e] at hd; exact ⟨x, rfl, Option.some.inj hd⟩
      obtain ⟨nx', rowsx⟩ := x
      obtain ⟨na, S, xs, rfl, hna, hSx, hxs⟩ := net_at hdq
      refine .inl ⟨_, .ref na, SqL.of N21.S, atI_nat hv0, ?_⟩
      refine ⟨na, _, rfl, hna, rfl, _, _, rfl, _, _, rfl, rfl, ?_⟩
      exact rest N21 (by omega) (N21.good _ (List.mem_of_getElem? hx)) hSx hxs fun o8' o9' H' nxE => ⟨_, _, _, _, _, _, _, _, _, rfl, back nxE⟩
    · rintro σ H1 ⟨o1, o2, o3, o4, o5, o6, o7, o8, o9, rfl, s1⟩
      exact ⟨rfl, fun H' s' => k H' (s1.trans s')⟩

end
end K02

set_option Elab.async false
set_option linter.all false
set_option maxRecDepth 100000
set_option maxHeartbeats 4000000
namespace K02
open PySem L2 PySem.KX StX
def spRefused (K : PySem.W.Frag) : Sp := fun vs H Q _ => ∃ (v : V) (d : PyData), vs = [v] ∧ Wd K H v d ∧ netD d = false ∧ ∀ H', Same H H' → Q (.bl true) H'
/-- the odd values -/
def oddD (n : Int) (rs : List PyData) : List PyData := [.none, .tuple [], .tuple [.int n], .list [.int n, .tuple rs], .tuple [.int n, .list rs], .tuple [.int n, .tuple []], .tuple [.int 1, .tuple rs], .tuple [.int 31, .tuple rs], .dict []] ++ [.tuple [.int n, .tuple (rs ++ rs.take 1)], .tuple [.int n, .tuple rs, .tuple []], .str "net", .int 0, .tuple [.bool true, .tuple rs]]
theorem odd_net {n : Int} {rows : List RowN} (hg : GoodN n rows) : ∀ d ∈ oddD n (rows.map rowD), netD d = false ∧ smQ d = true := fun d hd => by
  have hsm := (nc_net hg).sm
  have h1 := (smQ_tup hsm).2
  simp only [smQAll, Bool.and_eq_true] at h1
  have hT : smQ (.tuple (rows.map rowD)) = true := h1.2.1
  obtain ⟨hl, hall⟩ := smQ_tup hT
  have hL : smQ (.list (rows.map rowD)) = true := by simp only [smQ, hall, Bool.and_true, decide_eq_true_eq]; exact hl
  obtain ⟨r0, tl, hr⟩ : ∃ r0 tl, rows = r0 :: tl := by
    cases rows with
    | nil => have := hg.one; simp at this
    | cons r tl => exact ⟨r, tl, rfl⟩
  have hdup : netD (.tuple [.int n, .tuple (rows.map rowD ++ (rows.map rowD).take 1)]) = false := by
    show ((decide (2 ≤ n) && decide (n ≤ 30)) && ((decide (1 ≤ (rows.map rowD ++ (rows.map rowD).take 1).length) && decide ((rows.map rowD ++ (rows.map rowD).take 1).length ≤ 40)) && ((rows.map rowD ++ (rows.map rowD).take 1).all (stepD n) && ascD ((rows.map rowD ++ (rows.map rowD).take 1).map firstD)))) = false
    have e : (rows.map rowD ++ (rows.map rowD).take 1).map firstD = ((r0.1 :: tl.map (·.1)) ++ [r0.1]).map PyData.str := by
      subst hr
      simp [List.map_map]
      exact ⟨rfl, fun a b c _ => rfl, rfl⟩
    have ha : ascD ((rows.map rowD ++ (rows.map rowD).take 1).map firstD) = false := by
      rw [e]
      cases c : ascD (((r0.1 :: tl.map (·.1)) ++ [r0.1]).map PyData.str) with
      | false => rfl
      | true =>
        have hp := (asc_strs _).mp c
        rw [List.cons_append, List.pairwise_cons] at hp
        exact absurd (hp.1 r0.1 (List.mem_append_right _ (List.mem_singleton.mpr rfl))) (ltT_irr _)
    rw [ha, Bool.and_false, Bool.and_false, Bool.and_false]
  have hdsm : smQ (.tuple [.int n, .tuple (rows.map rowD ++ (rows.map rowD).take 1)]) = true := by
    have hh : smQAll (rows.map rowD ++ (rows.map rowD).take 1) = true := smAll_of fun x hx => by
      have : x ∈ rows.map rowD := by
        rcases List.mem_append.mp hx with z | z
        · exact z
        · exact List.mem_of_mem_take z
      obtain ⟨i, hi⟩ := List.getElem?_of_mem this
      exact smQ_mem hall hi
    have hf := hg.few
    have hlen : (rows.map rowD ++ (rows.map rowD).take 1).length ≤ 100000 := by
      rw [List.length_append]
      have := List.length_take_le 1 (rows.map rowD)
      have e5 : (rows.map rowD).length = rows.length := List.length_map _
      omega
    have hT2 : smQ (.tuple (rows.map rowD ++ (rows.map rowD).take 1)) = true := by simp only [smQ, hh, Bool.and_true, decide_eq_true_eq]; exact hlen
    have e2 : smQ (.tuple [.int n, .tuple (rows.map rowD ++ (rows.map rowD).take 1)]) = (decide (2 ≤ 100000) && (smQ (.int n) && (smQ (.tuple (rows.map rowD ++ (rows.map rowD).take 1)) && true))) := by
      simp only [smQ, smQAll, List.length_cons, List.length_nil]
    rw [e2, hT2]
    rfl
  have nil2 : smQ (.tuple []) = true := rfl
  unfold oddD at hd
  rcases List.mem_append.mp hd with hd | hd
  · rcases List.mem_cons.mp hd with rfl | hd
    · exact ⟨rfl, rfl⟩
    rcases List.mem_cons.mp hd with rfl | hd
    · exact ⟨rfl, rfl⟩
    rcases List.mem_cons.mp hd with rfl | hd
    · exact ⟨rfl, rfl⟩
    rcases List.mem_cons.mp hd with rfl | hd
    · exact ⟨rfl, by simp [smQ, smQAll, hT] at hT ⊢; exact hT⟩
    rcases List.mem_cons.mp hd with rfl | hd
    · exact ⟨rfl, by simp [smQ, smQAll] at hT ⊢; exact hT⟩
    rcases List.mem_cons.mp hd with rfl | hd
    · refine ⟨?_, rfl⟩
      show ((decide (2 ≤ n) && decide (n ≤ 30)) && ((decide (1 ≤ 0) && decide (0 ≤ 40)) && _)) = false
      simp
    rcases List.mem_cons.mp hd with rfl | hd
    · exact ⟨rfl, by simp [smQ, smQAll] at hT ⊢; exact hT⟩
    rcases List.mem_cons.mp hd with rfl | hd
    · exact ⟨rfl, by simp [smQ, smQAll] at hT ⊢; exact hT⟩
    rw [List.mem_singleton.mp hd]
    exact ⟨rfl, rfl⟩
  · rcases List.mem_cons.mp hd with rfl | hd
    · exact ⟨hdup, hdsm⟩
    rcases List.mem_cons.mp hd with rfl | hd
    · exact ⟨rfl, by simp [smQ, smQAll] at hT ⊢; exact hT⟩
    rcases List.mem_cons.mp hd with rfl | hd
    · exact ⟨rfl, by decide +kernel⟩
    rcases List.mem_cons.mp hd with rfl | hd
    · exact ⟨rfl, rfl⟩
    rw [List.mem_singleton.mp hd]
    exact ⟨rfl, by simp [smQ, smQAll] at hT ⊢; exact hT⟩
section
variable {P : Program} {w : World} {K : PySem.W.Frag} {mg : Str → Option Value} {base : Heap} {f : Addr} {cdv : Value} {A : Around} {outer : List Env} {s : Shared} {Hh : Hp} {E : XK}
theorem law_rest (hr : RoomG 8 (A.deeper (PyProof.Rows.envOfC "law" (defScope slaw) s.heap.objs.size f cdv))) (TX : TxtX mg) (O_one : Own P w K mg base CX0 "_law_one_of" 2 ["dice", "items"] spOneD) (O_ref : Own P w K mg base CX0 "_law_refused" 8 ["thing"] (spRefused K)) : LawRest P w K mg base f cdv A outer s Hh E := by
  intro D p L G a H0 H m vs nets n rows S xs o1 o7 o8 o9 N hm hg hS hx q
  have nd := sclaw.nd
  refine ⟨_, (pss_cons (ps_set (i := 8) nd rfl (by first | exact Or.inl rfl | exact Or.inr rfl) (pe_lstS (pa_cons pe_non (pa_cons (pe_tupS pa_nil) (pa_cons (pe_tupS (pa_cons (av 5) pa_nil)) (pa_cons (pe_lstS (pa_cons (av 5) (pa_cons (av 6) pa_nil))) (pa_cons (pe_tupS (pa_cons (av 5) (pa_cons (pe_callTy call_lstS (by rfl) TX.list (by decide +kernel) (pa_cons (av 6) pa_nil)) pa_nil))) (pa_cons (pe_tupS (pa_cons (av 5) (pa_cons (pe_tupS pa_nil) pa_nil))) (pa_cons (pe_tupS (pa_cons pe_int (pa_cons (av 6) pa_nil))) (pa_cons (pe_tupS (pa_cons pe_int (pa_cons (av 6) pa_nil))) (pa_cons pe_dnewK pa_nil)))))))))))
      (pss_cons (ps_set (i := 8) nd rfl (by first | exact Or.inl rfl | exact Or.inr rfl) (pe_op op_addS (av 8) (pe_lstS (pa_cons (pe_tupS (pa_cons (av 5) (pa_cons (pe_op op_addS (av 6) (pe_slice sl_tupS (av 6) po_none (po_some pe_int))) pa_nil))) (pa_cons (pe_tupS (pa_cons (av 5) (pa_cons (av 6) (pa_cons (pe_tupS pa_nil) pa_nil)))) (pa_cons pe_str (pa_cons pe_int (pa_cons (pe_tupS (pa_cons pe_bl (pa_cons (av 6) pa_nil))) pa_nil))))))))
      (pss_one (ps_if (pt_not (pt_valA (pe_own O_ref hr (pa_cons (pe_own O_one hr (pa_cons (av 2) (pa_cons (av 8) pa_nil)) (by decide)) pa_nil) (by decide)))) (pss_one (ps_ret pe_bl)) pss_nil)))), ?_⟩
  have hid : ∀ {H' : Hp} {b : Addr} {o : HO}, b ≠ p → H' b = some o → hide [p] H' b = some o := fun {H' b o} hb e => by
    rw [hide_in (fun z => hb (List.mem_singleton.mp z))]
    exact e
  obtain ⟨g', s', n', hp', _⟩ := id N.d
  have T0 : ∀ a xs, SqT K H a xs → SqT K (hide [p] H) a xs := fun a xs => sqT_hide hp'
  have hSh := T0 _ _ hS
  have hxh := dqAll_map T0 _ _ (tupO_rows rows) hx
  have ne : ∀ {H' : Hp} {b : Addr}, Same H H' → H' b = none → b ≠ p := fun {H' b} s e => (N.d.same s).ne e
  have hxl := hx.length
  rw [List.length_map] at hxl
  have hfew := hg.few
  refine ⟨by simp, fun q1 H1 s1 n1 l1 => ?_⟩
  refine ⟨by simp, fun q2 H2 s2 n2 l2 => ?_⟩
  refine ⟨by simp, fun q3 H3 s3 n3 l3 => ?_⟩
  have s03 := (s1.trans s2).trans s3
  refine ⟨S, xs, rfl, .inr (s03.sqT hS), fun q4 H4 s4 n4 l4 => ?_⟩
  refine ⟨by simp, fun q5 H5 s5 n5 l5 => ?_⟩
  refine ⟨by simp, fun q6 H6 s6 n6 l6 => ?_⟩
  refine ⟨by simp, fun q7 H7 s7 n7 l7 => ?_⟩
  refine ⟨by simp, fun q8 H8 s8 n8 l8 => ?_⟩
  refine ⟨by simp, fun q9 H9 s9 n9 l9 => ?_⟩
  refine fun q10 n10 => ?_
  have s10 : Same H9 (upd H9 q10 (.dK [])) := (Same.refl _).new n10
  have l10 : upd H9 q10 (.dK []) q10 = some (.dK []) := upd_same
  generalize upd H9 q10 (.dK []) = H10 at s10 l10 ⊢
  refine ⟨by simp, fun o1' H11 s11 n11 l11 => ?_⟩
  have s04 := s03.trans s4
  have s05 := s04.trans s5
  have s06 := s05.trans s6
  have s07 := s06.trans s7
  have s08 := s07.trans s8
  have s09 := s08.trans s9
  have s010 := s09.trans s10
  have s011 := s010.trans s11
  refine ⟨1, rfl, S, xs, rfl, s011.sqT hS, fun S3 H12 s12 h12 => ?_⟩
  have ec : cutV xs none (some 1) = xs.take 1 := cut_toV xs 1
  rw [ec] at h12
  have s012 := s011.trans s12
  refine .inr ⟨_, _, s012.sqT hS, h12, by rw [List.length_take]; omega, fun S5 H13 s13 h13 => ?_⟩
  refine ⟨by simp, fun q14 H14 s14 n14 l14 => ?_⟩
  refine ⟨by simp, fun q15 H15 s15 n15 l15 => ?_⟩
  refine ⟨by simp, fun q16 H16 s16 n16 l16 => ?_⟩
  refine ⟨by simp, fun q17 H17 s17 n17 l17 => ?_⟩
  refine ⟨by simp, fun o2' H18 s18 n18 l18 => ?_⟩
  have s1118 := (((((s12.trans s13).trans s14).trans s15).trans s16).trans s17).trans s18
  refine .inl ⟨_, _, s1118 _ _ l11, l18, by simp, fun o3' H19 s19 n19 l19 => ?_⟩
  have s1119 := s1118.trans s19
  have s019 := s011.trans s1119
  have s013 := s012.trans s13
  have s014 := s013.trans s14
  have s015 := s014.trans s15
  have s016 := s015.trans s16
  have s017 := s016.trans s17
  have s018 := s017.trans s18
  -- all of it at the last heap
  have hs : Same (hide [p] H) (hide [p] H19) := hide_same s019
  have Sx : SqT K (hide [p] H19) S xs := hs.sqT hSh
  have Dx : DqAll K (hide [p] H19) xs (rows.map rowD) := DqAll.same hs _ _ hxh
  have Tq : Dq K (hide [p] H19) (.ref S) (.tuple (rows.map rowD)) := .tup Sx Dx
  have up : ∀ {H' : Hp} {b : Addr} {o : HO}, b ≠ p → Same H' H19 → H' b = some o → hide [p] H19 b = some o := fun {H' b o} hb s e => hid hb (s _ _ e)
  have t18 := s19
  have t17 := s18.trans t18
  have t16 := s17.trans t17
  have t15 := s16.trans t16
  have t14 := s15.trans t15
  have t13 := s14.trans t14
  have t12 := s13.trans t13
  have t11 := s12.trans t12
  have t10 := s11.trans t11
  have t9 := s10.trans t10
  have t8 := s9.trans t9
  have t7 := s8.trans t8
  have t6 := s7.trans t7
  have t5 := s6.trans t6
  have t4 := s5.trans t5
  have t3 := s4.trans t4
  have t2 := s3.trans t3
  have t1 := s2.trans t2
  have d1 : Dq K (hide [p] H19) (.ref q1) (.tuple []) := .tup (SqT.of (up (ne (Same.refl _) n1) t1 l1)) .nil
  have d2 : Dq K (hide [p] H19) (.ref q2) (.tuple [.int n]) := .tup (SqT.of (up (ne s1 n2) t2 l2)) (.cons (.int _) .nil)
  have d3 : Dq K (hide [p] H19) (.ref q3) (.list [.int n, .tuple (rows.map rowD)]) := .lst (SqL.of (up (ne (s1.trans s2) n3) t3 l3)) (.cons (.int _) (.cons Tq .nil))
  have d4 : Dq K (hide [p] H19) (.ref q4) (.list (rows.map rowD)) := .lst (SqL.of (up (ne s03 n4) t4 l4)) Dx
  have d5 : Dq K (hide [p] H19) (.ref q5) (.tuple [.int n, .list (rows.map rowD)]) := .tup (SqT.of (up (ne s04 n5) t5 l5)) (.cons (.int _) (.cons d4 .nil))
  have d6 : Dq K (hide [p] H19) (.ref q6) (.tuple []) := .tup (SqT.of (up (ne s05 n6) t6 l6)) .nil
  have d7 : Dq K (hide [p] H19) (.ref q7) (.tuple [.int n, .tuple []]) := .tup (SqT.of (up (ne s06 n7) t7 l7)) (.cons (.int _) (.cons d6 .nil))
  have d8 : Dq K (hide [p] H19) (.ref q8) (.tuple [.int 1, .tuple (rows.map rowD)]) := .tup (SqT.of (up (ne s07 n8) t8 l8)) (.cons (.int _) (.cons Tq .nil))
  have d9 : Dq K (hide [p] H19) (.ref q9) (.tuple [.int 31, .tuple (rows.map rowD)]) := .tup (SqT.of (up (ne s08 n9) t9 l9)) (.cons (.int _) (.cons Tq .nil))
  have d10 : Dq K (hide [p] H19) (.ref q10) (.dict []) := .emp (up (ne s09 n10) t10 l10)
  have TS13 : ∀ a xs, SqT K H13 a xs → SqT K (hide [p] H13) a xs := fun a xs => sqT_hide (s013 _ _ hp')
  have S5h : SqT K (hide [p] H19) S5 (xs ++ xs.take 1) := (hide_same t13).sqT (TS13 _ _ h13)
  have dtake : ∀ {H' : Hp} {vs : List V} {ds : List PyData}, DqAll K H' vs ds → ∀ k, DqAll K H' (vs.take k) (ds.take k) := fun {H' vs ds} h k => by
    induction k generalizing vs ds with
    | zero => exact .nil
    | succ k ih =>
      cases h with
      | nil => exact .nil
      | cons h1 h2 => exact .cons h1 (ih h2)
  have dapp : ∀ {H' : Hp} {vs us : List V} {ds es : List PyData}, DqAll K H' vs ds → DqAll K H' us es → DqAll K H' (vs ++ us) (ds ++ es) := fun {H' vs us ds es} h k => by
    induction vs generalizing ds with
    | nil => cases h; exact k
    | cons v vs ih =>
      cases h with
      | cons h1 h2 => exact .cons h1 (ih h2)
  have d14 : Dq K (hide [p] H19) (.ref q14) (.tuple [.int n, .tuple (rows.map rowD ++ (rows.map rowD).take 1)]) := .tup (SqT.of (up (ne s013 n14) t14 l14)) (.cons (.int _) (.cons (.tup S5h (dapp Dx (dtake Dx 1))) .nil))
  have d15 : Dq K (hide [p] H19) (.ref q15) (.tuple []) := .tup (SqT.of (up (ne s014 n15) t15 l15)) .nil
  have d16 : Dq K (hide [p] H19) (.ref q16) (.tuple [.int n, .tuple (rows.map rowD), .tuple []]) := .tup (SqT.of (up (ne s015 n16) t16 l16)) (.cons (.int _) (.cons Tq (.cons d15 .nil)))
  have d17 : Dq K (hide [p] H19) (.ref q17) (.tuple [.bool true, .tuple (rows.map rowD)]) := .tup (SqT.of (up (ne s016 n17) t17 l17)) (.cons (.bl _) (.cons Tq .nil))
  have all : DqAll K (hide [p] H19) _ (oddD n (rows.map rowD)) := dapp (.cons .non (.cons d1 (.cons d2 (.cons d3 (.cons d5 (.cons d7 (.cons d8 (.cons d9 (.cons d10 .nil))))))))) (.cons d14 (.cons d16 (.cons (.str _) (.cons (.int _) (.cons d17 .nil)))))
  refine ⟨p, o3', m, _, rfl, N.d.same s019, l19, by omega, ne s018 n19, by simp, by simp, fun t v H20 hv dc20 e20 => ?_⟩
  obtain ⟨d, hd, hdq⟩ := all.get hv
  obtain ⟨h1, h2⟩ := odd_net hg d (List.mem_of_getElem? hd)
  refine ⟨v, d, rfl, ⟨Dq.same hide_sub _ _ (Dq.same (Nxt.of_eq e20) _ _ hdq), h2⟩, h1, fun H21 s21 => ?_⟩
  refine iteF ?_
  exact q _ _ H21 (((N.nx.trans (Nxt.of s019)).trans (Nxt.of_eq e20)).trans (Nxt.of s21))
end
end K02

set_option Elab.async false
set_option linter.all false
set_option maxRecDepth 100000
set_option maxHeartbeats 4000000
/-! iterators that end while an exception is handled. -/
namespace HotK
open PySem PySem.Spec PyProof.Rows HotX
section
variable {prog : Program} {w : World} {A : Around} {E : Value → Shared → Prop} {s : Shared}
theorem next_tuple_end_hot {it t x1 : Addr} {i : Nat} {items : Array Value} {Q : Option Value → Shared → Prop} (hot : HotAt A x1 s.heap)
    (hit : IsTupIter s.heap it t i) (ht : IsTup s.heap t items) (hx : items[i]? = none) (ne : x1 ≠ it)
    (hQ : ∀ h', Heap.ExtBut it s.heap h' → Q none { s with heap := h' }) : wpAny (model prog w) A (pyNext (.ref it)) Q E s := by
  obtain ⟨o, ho, hc, hd⟩ := id hit
  obtain ⟨ol, hol, _, nl, hdl⟩ := ht
  obtain ⟨hh, o1, vs1, h1, d1, c1⟩ := hot
  unfold pyNext
  refine wpAny_bind (wpAny_attempt (wpAny_callSpecial?_slot (name := Str.ofString "__next__") hit.typeIs slot_tupleiter_next
    (wpAny_call_entry slot_tupleiter_next hit.typeIs entry_tupleiter_next ?_ (args_tupleiter_next _))))
  show wpAny _ _ (field (.ref it) 0 >>= _) _ _ s
  refine wpAny_bind (wpAny_field ho hd (x := .ref t) rfl ?_)
  show wpAny _ _ (if (Value.ref t == Value.none) = true then _ else _) _ _ s
  rw [if_neg (show ¬ ((Value.ref t == Value.none) = true) from Bool.false_ne_true)]
  show wpAny _ _ (field (.ref it) 1 >>= _) _ _ s
  refine wpAny_bind (wpAny_field ho hd (x := .int i 0) rfl ?_)
  show wpAny _ _ (seqItems? (.ref t) >>= _) _ _ s
  refine wpAny_bind (wpAny_seqItems hol hdl ?_)
  simp only [Int.toNat_natCast, hx]
  refine wpAny_bind (wpAny_rule (wpAny_bind (wpAny_setField ho hd (by simp) ?_)))
  show wpAny _ _ (newExc (.type "StopIteration") [] >>= _) _ _ _
  refine wpAny_bind ?_
  simp only [newExc, newTuple]
  refine wpAny_bind (wpAny_newObj_type ?_ (by size_fits))
  refine wpAny_bind (m := firstArgMember _ _) (wpAny_of_eq (a := Value.none) (by first | rfl | (simp only [firstArgMember]; rfl)) ?_)
  refine wpAny_newObj_type ?_ (by size_fits)
  have kb : ∀ (g : Obj → Obj) b o, b ≠ it → s.heap.get? b = some o → (s.heap.update it g).get? b = some o := fun g b o hb e => (Heap.get?_update_other _ _ (Ne.symm hb)).trans e
  refine raiseNew_hot (x1 := x1) ⟨hh, o1, vs1, Heap.get?_push_of_some _ (Heap.get?_push_of_some _ (kb _ _ _ ne h1)), d1, c1⟩ (Nat.ne_of_lt (Heap.lt_size (Heap.get?_push_of_some _ (kb _ _ _ ne h1)))) (Heap.get?_push_size _ rfl) rfl (by first | (simp; done) | (simp; omega) | (simp only [Array.size_append]; simp; omega)) ?_
  refine wpAny_bind (wpAny_isInstance (T := "StopIteration") (b := true) ⟨_, Heap.get?_update_self _ (Heap.get?_push_size _ rfl) rfl, rfl⟩ isSubtype_stop ?_)
  refine wpAny_pure (hQ _ fun b o hb e => ?_)
  rw [Heap.get?_update_other _ _ (Nat.ne_of_gt (Heap.lt_size (Heap.get?_push_of_some _ (kb _ _ _ hb e))))]
  exact Heap.get?_push_of_some _ (Heap.get?_push_of_some _ (kb _ _ _ hb e))
theorem next_list_end_hot {it l x1 : Addr} {i : Nat} {items : Array Value} {Q : Option Value → Shared → Prop} (hot : HotAt A x1 s.heap)
    (hit : s.heap.IsListIter it l i) (hl : s.heap.IsList l items) (hx : items[i]? = none) (ne : x1 ≠ it)
    (hQ : ∀ h', Heap.ExtBut it s.heap h' → Q none { s with heap := h' }) : wpAny (model prog w) A (pyNext (.ref it)) Q E s := by
  obtain ⟨o, ho, hc, hd⟩ := id hit
  obtain ⟨ol, hol, _, nl, hdl⟩ := hl
  obtain ⟨hh, o1, vs1, h1, d1, c1⟩ := hot
  unfold pyNext
  refine wpAny_bind (wpAny_attempt (wpAny_callSpecial?_slot (name := Str.ofString "__next__") hit.typeIs slot_listiter_next
    (wpAny_call_entry slot_listiter_next hit.typeIs entry_listiter_next ?_ (args_listiter_next _))))
  show wpAny _ _ (field (.ref it) 0 >>= _) _ _ s
  refine wpAny_bind (wpAny_field ho hd (x := .ref l) rfl ?_)
  show wpAny _ _ (if (Value.ref l == Value.none) = true then _ else _) _ _ s
  rw [if_neg (show ¬ ((Value.ref l == Value.none) = true) from Bool.false_ne_true)]
  show wpAny _ _ (field (.ref it) 1 >>= _) _ _ s
  refine wpAny_bind (wpAny_field ho hd (x := .int i 0) rfl ?_)
  show wpAny _ _ (seqItems? (.ref l) >>= _) _ _ s
  refine wpAny_bind (wpAny_seqItems hol hdl ?_)
  simp only [Int.toNat_natCast, hx]
  refine wpAny_bind (wpAny_rule (wpAny_bind (wpAny_setField ho hd (by simp) ?_)))
  show wpAny _ _ (newExc (.type "StopIteration") [] >>= _) _ _ _
  refine wpAny_bind ?_
  simp only [newExc, newTuple]
  refine wpAny_bind (wpAny_newObj_type ?_ (by size_fits))
  refine wpAny_bind (m := firstArgMember _ _) (wpAny_of_eq (a := Value.none) (by first | rfl | (simp only [firstArgMember]; rfl)) ?_)
  refine wpAny_newObj_type ?_ (by size_fits)
  have kb : ∀ (g : Obj → Obj) b o, b ≠ it → s.heap.get? b = some o → (s.heap.update it g).get? b = some o := fun g b o hb e => (Heap.get?_update_other _ _ (Ne.symm hb)).trans e
  refine raiseNew_hot (x1 := x1) ⟨hh, o1, vs1, Heap.get?_push_of_some _ (Heap.get?_push_of_some _ (kb _ _ _ ne h1)), d1, c1⟩ (Nat.ne_of_lt (Heap.lt_size (Heap.get?_push_of_some _ (kb _ _ _ ne h1)))) (Heap.get?_push_size _ rfl) rfl (by first | (simp; done) | (simp; omega) | (simp only [Array.size_append]; simp; omega)) ?_
  refine wpAny_bind (wpAny_isInstance (T := "StopIteration") (b := true) ⟨_, Heap.get?_update_self _ (Heap.get?_push_size _ rfl) rfl, rfl⟩ isSubtype_stop ?_)
  refine wpAny_pure (hQ _ fun b o hb e => ?_)
  rw [Heap.get?_update_other _ _ (Nat.ne_of_gt (Heap.lt_size (Heap.get?_push_of_some _ (kb _ _ _ hb e))))]
  exact Heap.get?_push_of_some _ (Heap.get?_push_of_some _ (kb _ _ _ hb e))
/-- a, b = a tuple -/
theorem unpackItems_hot {t x1 : Addr} {items : Array Value} {Q : List Value → Shared → Prop} (hot : HotAt A x1 s.heap) (ht : IsTup s.heap t items)
    (hQ : ∀ h', Heap.ExtBut s.heap.objs.size s.heap h' → Q items.toList { s with heap := h' }) : wpAny (model prog w) A (unpackItems (.ref t) items.size none) Q E s := by
  have hlt : t ≠ s.heap.objs.size := by obtain ⟨o, ho, _⟩ := ht; exact Nat.ne_of_lt (Heap.lt_size ho)
  have hx1 : x1 ≠ s.heap.objs.size := by obtain ⟨_, o1, vs1, h1, _⟩ := hot; exact Nat.ne_of_lt (Heap.lt_size h1)
  unfold unpackItems
  refine wpAny_bind ?_
  · unfold notIterableAtAll
    refine wpAny_bind (wpAny_specialOf ht.typeIs slot_tuple_iter.lookup ?_)
    refine wpAny_pure ?_
    simp only [Bool.false_eq_true, if_false]
    refine wpAny_bind (wpAny_holding (iter_tuple ht ?_))
    refine wpAny_bind (wpAny_holding (draw_tuple hlt items.size 0 _ _ ⟨_, Heap.get?_push_size _ rfl, rfl, rfl⟩ (ht.push _) (by omega) fun h₁ hit₁ hs₁ => ?_))
    have hall : List.take items.size (List.drop 0 items.toList) = items.toList := by
      rw [List.drop_zero]; exact List.take_of_length_le (by simp)
    rw [hall]
    rw [if_neg (by simp)]
    have ht₁ : IsTup h₁ t items := (ht.push _).extBut hs₁.extBut hlt
    have hot₁ : HotAt A x1 h₁ := by
      obtain ⟨hh, o1, vs1, h1, d1, c1⟩ := hot
      exact ⟨hh, o1, vs1, hs₁.extBut _ _ hx1 (Heap.get?_push_of_some _ h1), d1, c1⟩
    refine wpAny_bind (wpAny_holding (next_tuple_end_hot (s := { s with heap := h₁ }) hot₁ hit₁ ht₁ (by simp) hx1 fun h₂ he₂ => ?_))
    simp only [Option.isSome_none, Bool.false_eq_true, if_false]
    refine wpAny_pure (hQ h₂ fun b o hb e => he₂ b o hb (hs₁.extBut b o hb (Heap.get?_push_of_some _ e)))
end
end HotK

set_option Elab.async false
set_option linter.all false
set_option maxRecDepth 100000
set_option maxHeartbeats 4000000
/-! rules where an exception is handled: what the context bears is told by its states (HotI), not by its pins. -/
namespace L2
open PySem PySem.Spec PyProof.Rows PySem.KX
structure HotI (X : Cx) (p : Addr × Obj) : Prop where
  hot : L2H.Hot1 X.A p
  at' : ∀ (pins : List (Addr × Obj)) (σ : List (Option V)) (H : Hp) (s : Shared), Inv X pins σ H s → s.heap.get? p.1 = some p.2 ∧ H p.1 = none
  nfs : p.1 ∉ frs X.stack
  ncl : ∀ v, p.2.data ≠ .cell v
theorem HotI.is {X : Cx} {p : Addr × Obj} (h : HotI X p) {pins : List (Addr × Obj)} {σ : List (Option V)} {H : Hp} {s : Shared} (I : Inv X pins σ H s) : HotX.HotAt X.A p.1 s.heap := by
  obtain ⟨hh, vs, e, c⟩ := h.hot
  exact ⟨hh, p.2, vs, (h.at' _ _ _ _ I).1, e, c⟩
theorem hotI_pin {X : Cx} {p : Addr × Obj} (h : L2H.Hot1 X.A p) (hp : p ∈ X.pn) (nfs : p.1 ∉ frs X.stack) (ncl : ∀ v, p.2.data ≠ .cell v) : HotI X p :=
  ⟨h, fun pins σ H s I => ⟨(I.pin p (List.mem_append_left _ hp)).1, (I.pin p (List.mem_append_left _ hp)).2.1⟩, nfs, ncl⟩
theorem HotI.blk {X : Cx} {p : Addr × Obj} (h : HotI X p) {pins : List (Addr × Obj)} {σ : List (Option V)} {H : Hp} {s : Shared} (I : Inv X pins σ H s) {scope : Scope} {ce : Env} {fp : List Addr} (hfp : ∀ b ∈ fp, b ≠ p.1) : HotI (X.blk s H scope ce fp) p := by
  obtain ⟨h1, h2⟩ := h.at' _ _ _ _ I
  refine ⟨h.hot, fun pins' σ' H' s' I' => ?_, h.nfs, h.ncl⟩
  have ne : p.1 ∉ fp := fun z => hfp _ z rfl
  exact ⟨I'.base.keep _ _ h1 h2 h.nfs ne, I'.base.free _ _ h1 h2 ne⟩
/-! ### walks -/
structure TurnI (P : Program) (w : World) (K : PySem.W.Frag) (p : Addr × Obj) (tg : Expr) (J : It) (fp : List Addr) (it : Addr) (tn : Nat → Heap → Prop) : Prop where
  mem : it ∈ fp
  obj : ∀ i h, tn i h → ∀ b ∈ fp, ∃ o, h.get? b = some o ∧ ∀ v, o.data ≠ .cell v
  keep : ∀ i h h', tn i h → (∀ b ∈ fp, ∀ o, h.get? b = some o → h'.get? b = some o) → tn i h'
  item : ∀ (X : Cx), X.prog = P → X.w = w → X.K = K → HotI X p → ∀ (i : Nat) (pins : List (Addr × Obj)) (s : Shared) (σ : St) (H : Hp) (E : Value → Shared → Prop), Inv X pins σ H s → (∀ b ∈ fp, FpOk X pins H b) → tn i s.heap → J.go i H →
    wpAny (model P w) X.A (pyNext (.ref it)) (fun r s1 => ∃ u, r = some u ∧
      wpAny (model P w) X.A (letOwnedTupleGo tg (.ref it) u) (fun _ s2 => ∃ x H', Inv X pins σ H' s2 ∧ RelV x u ∧ J.yld i H x H' ∧ tn (i + 1) s2.heap ∧ ∀ b ∈ fp, H' b = none) E s1) E s
  done : ∀ (X : Cx), X.prog = P → X.w = w → X.K = K → HotI X p → ∀ (i : Nat) (pins : List (Addr × Obj)) (s : Shared) (σ : St) (H : Hp) (E : Value → Shared → Prop), Inv X pins σ H s → (∀ b ∈ fp, FpOk X pins H b) → tn i s.heap → J.stop i H →
    wpAny (model P w) X.A (pyNext (.ref it)) (fun r s1 => r = none ∧ Inv X pins σ H s1) E s
  self : ∀ (A : Around) (i : Nat) (s : Shared) (Q : Value → Shared → Prop) (E : Value → Shared → Prop), tn i s.heap → Q (.ref it) s → wpAny (model P w) A (pyIter (.ref it)) Q E s
def PIEI (X : Cx) (p : Addr × Obj) (pins : List (Addr × Obj)) (σ : St) (tg : Expr) (R : It → Hp → Prop) (itv : Value) (s2 : Shared) : Prop :=
  ∃ (it : Addr) (fp : List Addr) (tn : Nat → Heap → Prop) (J : It) (H' : Hp), itv = .ref it ∧ Inv X pins σ H' s2 ∧ TurnI X.prog X.w X.K p tg J fp it tn ∧ tn 0 s2.heap ∧ (∀ b ∈ fp, FpOk X pins H' b) ∧ (∀ b ∈ fp, b ≠ p.1) ∧ R J H'
structure PII (X : Cx) (p : Addr × Obj) (tg iter : Expr) (wi : TI) : Prop where
  run : ∀ (pins : List (Addr × Obj)) (s : Shared) (σ : St) (H : Hp) (R : It → Hp → Prop), Inv X pins σ H s → wi σ H R →
    wpAny (model X.prog X.w) X.A (eval iter X.env) (fun v s1 => wpAny (model X.prog X.w) X.A (pyIter v) (PIEI X p pins σ tg R) X.xe s1) X.xe s
theorem turn_tupI {P : Program} {w : World} {K : PySem.W.Frag} {p : Addr × Obj} {tg : Expr} (a it : Addr) (ne : p.1 ≠ it) : TurnI P w K p tg (Itt K a) [it] it (fun i h => h.IsTupleIter it a i) where
  mem := (turn_tuple (P := P) (w := w) (K := K) (tg := tg) a it).mem
  obj := (turn_tuple (P := P) (w := w) (K := K) (tg := tg) a it).obj
  keep := (turn_tuple (P := P) (w := w) (K := K) (tg := tg) a it).keep
  item := by
    intro X hP hw hK hc i pins s σ H E I hf st hg
    subst hP hw hK
    obtain ⟨xs, x, hq, hx⟩ := hg
    obtain ⟨its, rv, q, hz⟩ := I.tuple hq
    obtain ⟨u, hu, ru⟩ := rv.get hx
    obtain ⟨f0, f1, f2, f3, f4, f5⟩ := hf it (by simp)
    refine wpAny_pyNext_tuple_item st (show s.heap.IsTuple a its.toArray from q) (x := u) (by simpa using hu) fun h' st' sb => ?_
    have I1 : Inv X pins σ H { s with heap := h' } := I.turned (t' := s.toks) (fun b o hb e => (sb.2 b hb).trans e) f0 f1 f3 f4 f5
    obtain ⟨o, e, c, d⟩ := id st'
    exact ⟨u, rfl, go_of (s := { s with heap := h' }) e c d (by decide) ⟨x, H, I1, ru, ⟨rfl, fun ys hy => by rw [I.tuple_inj hy hq]; exact hx⟩, st', fun b hb => (hf b hb).1⟩⟩
  done := by
    intro X hP hw hK hc i pins s σ H E I hf st hg
    subst hP hw hK
    obtain ⟨xs, hq, hx⟩ := hg
    obtain ⟨its, rv, q, hz⟩ := I.tuple hq
    obtain ⟨f0, f1, f2, f3, f4, f5⟩ := hf it (by simp)
    have hl := rv.length
    exact HotK.next_tuple_end_hot (hc.is I) st q (by simp; omega) ne fun h' eb => ⟨rfl, I.turned (t' := s.toks) (fun b o hb e => eb b o hb e) f0 f1 f3 f4 f5⟩
  self := (turn_tuple (P := P) (w := w) (K := K) (tg := tg) a it).self
section
variable {X : Cx} {p : Addr × Obj} {tg : Expr}
theorem pi_tupI (hc : HotI X p) {l : Expr} {tl : TE} (hl : PE X l tl) : PII X p tg l (iTup X.K tl) := by
  refine ⟨fun pins s σ H R I h => ?_⟩
  refine thn (hl.run pins s σ H _ I h) fun v s1 ⟨x, H1, I1, r1, q1⟩ => ?_
  obtain ⟨a, e, ⟨xs, hq⟩, q⟩ := q1
  subst e
  cases r1
  obtain ⟨its, rv, pp, hz⟩ := I1.tuple hq
  have hlt : p.1 ≠ s1.heap.objs.size := Nat.ne_of_lt (Heap.lt_size (hc.at' _ _ _ _ I1).1)
  refine wpAny_pyIter_tuple (show s1.heap.IsTuple a its.toArray from pp) ?_
  refine ⟨s1.heap.objs.size, [s1.heap.objs.size], _, _, H1, rfl, I1.kept (t' := s1.toks) fun b o e => Heap.get?_push_of_some _ e, turn_tupI a _ hlt, ⟨_, Heap.get?_push_size _ rfl, rfl, rfl⟩, fun b hb => ?_, fun b hb => ?_, q⟩
  · have e : b = s1.heap.objs.size := by simpa using hb
    subst e
    exact I1.fpOk (Nat.le_refl _) (I1.hok.fresh (Nat.le_refl _))
  · have e : b = s1.heap.objs.size := by simpa using hb
    subst e
    exact Ne.symm hlt
/-- (a, b, ..) = a tuple of that length -/
theorem pg_tupI {es : List Expr} {k : Nat} {t : TGs} {n : Nat} {pos : Pos} (hc : HotI X p) (h : PGs X es t)
    (hn : (assignEach es X.env).length = n := by rfl) (hst : (assignEach es X.env).findIdx? (·.1) = none := by rfl) : PG X (.Tuple es k pos) (gTup X.K n t) := by
  refine ⟨fun pins s σ H v u Q I r hw => ?_⟩
  obtain ⟨a, xs, e1, hq, hl, hw⟩ := hw
  subst e1
  cases r
  obtain ⟨its, rv, ht, hz⟩ := I.tuple hq
  have hsz : its.toArray.size = n := by simp [← hl, rv.length]
  rw [assign_Tuple]
  refine wpAny_bind (wpAny_standAt ?_)
  unfold unpack
  rw [hn, hst, ← hsz]
  refine wpAny_bind (wpAny_holding (HotK.unpackItems_hot (hc.is I) ht fun h' hx => ?_))
  have I1 : Inv X pins σ H { s with heap := h' } := I.kept (t' := s.toks) fun b o e => hx b o (Nat.ne_of_lt (Heap.lt_size e)) e
  exact h.run pins _ σ H xs _ Q I1 (by simpa using rv) hw
theorem lc_coreI {pins : List (Addr × Obj)} {s : Shared} {σ : St} {H : Hp} {Q : VK} {elt tg iter : Expr} {ifs : List Expr} {scope : Scope} {own : List (Str × Nat)} {pos pos' : Pos} {wi : TI} {g : TG} {tt : TT} {te : TE} {use : Option (Value → Sem Unit)} {Qf : Value → Shared → Prop}
    {p : Addr × Obj} (hc : HotI X p) (hN : X.N.Nodup) (I : Inv X pins σ H s) (hi : PII X p tg iter wi) (ok : BlkOk X.N X.env.scope scope own)
    (hg : ∀ (s : Shared) (H : Hp) (C : Addr) (cl : List (Str × Addr)) (fp : List Addr), HotI (X.blk s H scope (compEnvC scope cl C X.env) fp) p → PG (X.blk s H scope (compEnvC scope cl C X.env) fp) tg g) (ht : ∀ (s : Shared) (H : Hp) (C : Addr) (cl : List (Str × Addr)) (fp : List Addr), HotI (X.blk s H scope (compEnvC scope cl C X.env) fp) p → PTs (X.blk s H scope (compEnvC scope cl C X.env) fp) ifs tt)
    (he : ∀ (s : Shared) (H : Hp) (C : Addr) (cl : List (Str × Addr)) (fp : List Addr), HotI (X.blk s H scope (compEnvC scope cl C X.env) fp) p → PE (X.blk s H scope (compEnvC scope cl C X.env) fp) elt te) (hs : ∀ x, foldedSetIterable iter X.env x = pure x)
    (h : tLc wi g tt te (own.map (·.2)) σ H Q)
    (hRR : ∀ D C s' m H', Inv X pins σ H' s' → Q (.ref D) H' → s'.heap.Ns C m → FpOk X pins H' C → compPost (model X.prog X.w) X.A X.xe use Qf (.ref D) C (.ok .next) s') :
    wpAny (model X.prog X.w) X.A (comprehension (.ListComp elt [⟨tg, iter, ifs, 0⟩] scope pos) scope X.env pos' (newList []) false (eval iter X.env) use) Qf X.xe s := by
  have hfree : ∀ y ∈ scope.names, y.2 = .free → ∃ c, X.env.cells.lookup y.1 = some c := fun y hy e => by
    rcases ok.free y hy e with k | k
    · exact I.ok.has _ (.inl k)
    · exact I.ok.has _ (.inr k)
  refine wpAny_comprehension_free (use := use) rfl hs (closure_ok hfree) ok.kind (fun y hy e => by rw [ok.uniq y hy, e])
    (thn (hi.run pins s σ H _ I h) fun xv s1 hx => thn hx fun itv s2 h2 => ?_)
  obtain ⟨it, fp, tn, J, H2, e, I2, T, st2, f2, hfp, q⟩ := h2
  subst e
  refine wpAny_newObj_type (newEnv_comp ?_) (by show 0 ≤ sizeLine; decide)
  generalize hD : s2.heap.objs.size = D
  have hDn : H2 D = none := I2.hok.fresh (Nat.le_of_eq hD)
  obtain ⟨W, ⟨m0, w0⟩, turn⟩ := q D hDn
  -- the new list
  generalize hs3 : ({ s2 with heap := s2.heap.push { cls := .type "list", data := .seq ([] : List Value).toArray } } : Shared) = s3
  have I3 : Inv X pins σ (upd H2 D (.lst [])) s3 := by
    rw [← hs3]
    refine I2.laid (t' := s2.toks) (fun b o e => Heap.get?_push_of_some _ e) (Nat.le_of_eq hD) ⟨Nat.zero_le _, [], 0, .nil, ?_⟩
    rw [← hD]
    exact Heap.get?_push_size _ rfl
  have h3 : s3.heap = s2.heap.push { cls := .type "list", data := .seq ([] : List Value).toArray } := by rw [← hs3]
  have sz : ∀ b ∈ fp, b < s2.heap.objs.size := fun b hb => by
    obtain ⟨o, e, _⟩ := T.obj _ _ st2 b hb
    exact Heap.lt_size e
  have f3 : ∀ b ∈ fp, FpOk X pins (upd H2 D (.lst [])) b ∧ b < s3.heap.objs.size := fun b hb => by
    have hlt := sz b hb
    refine ⟨⟨?_, (f2 b hb).2⟩, by rw [h3, Heap.size_push]; exact Nat.lt_succ_of_lt hlt⟩
    rw [upd_ne (by rw [← hD]; exact Nat.ne_of_lt hlt)]
    exact (f2 b hb).1
  have st3 : tn 0 s3.heap := T.keep _ _ _ st2 fun b _ o e => by rw [h3]; exact Heap.get?_push_of_some _ e
  have I4 := block_start I3 ok hN f3
  have pg := hg s3 (upd H2 D (.lst [])) s3.heap.objs.size (cellsFrom (s3.heap.objs.size + 1) scope.names (cloFrom X.env.cells scope.names [])) fp (hc.blk I3 hfp)
  have pt := ht s3 (upd H2 D (.lst [])) s3.heap.objs.size (cellsFrom (s3.heap.objs.size + 1) scope.names (cloFrom X.env.cells scope.names [])) fp (hc.blk I3 hfp)
  have pe := he s3 (upd H2 D (.lst [])) s3.heap.objs.size (cellsFrom (s3.heap.objs.size + 1) scope.names (cloFrom X.env.cells scope.names [])) fp (hc.blk I3 hfp)
  have hcb : HotI (X.blk s3 (upd H2 D (.lst [])) scope (compEnvC scope (cellsFrom (s3.heap.objs.size + 1) scope.names (cloFrom X.env.cells scope.names [])) s3.heap.objs.size X.env) fp) p := hc.blk I3 hfp
  show codeAny _ _ (.compStart (.ListComp elt [⟨tg, iter, ifs, 0⟩] scope pos) 0 (.ref it) (.ref D) (compEnvC scope (cellsFrom (s3.heap.objs.size + 1) scope.names (cloFrom X.env.cells scope.names [])) s3.heap.objs.size X.env)) (compPost (model X.prog X.w) X.A X.xe use Qf (.ref D) s3.heap.objs.size) { s3 with heap := pushCells (s3.heap.push { cls := .type "dict", data := .dict #[] }) scope.names }
  have nfp : ∀ b ∈ fp, (upd H2 D (.lst [])) b = none := fun b hb => (f3 b hb).1.1
  generalize hce : compEnvC scope (cellsFrom (s3.heap.objs.size + 1) scope.names (cloFrom X.env.cells scope.names [])) s3.heap.objs.size X.env = ce at I4 pg pt pe hcb ⊢
  have cL : ce.locals = s3.heap.objs.size := by subst hce; rfl
  generalize hH3 : upd H2 D (.lst []) = H3 at I3 I4 pg pt pe w0 nfp f3 hcb
  generalize hs4 : ({ s3 with heap := pushCells (s3.heap.push { cls := .type "dict", data := .dict #[] }) scope.names } : Shared) = s4 at I4 ⊢
  have st4 : tn 0 s4.heap := T.keep _ _ _ st3 fun b _ o e => by rw [← hs4]; exact pushCells_keeps _ _ _ _ (Heap.get?_push_of_some _ e)
  have stat : ∀ {σ' : St} {H' : Hp} {s' : Shared}, Inv (X.blk s3 H3 scope ce fp) [] σ' H' s' → (∀ b ∈ fp, H' b = none) → ∀ b ∈ fp, FpOk (X.blk s3 H3 scope ce fp) [] H' b := fun {σ' H' s'} I' hn b hb =>
    ⟨hn b hb, (I'.ok.exf b hb).1, I'.ok.exfs b hb, .inl hb, fun x c e => (I'.ok.exf b hb).2 x c e, fun p hp => absurd (show p ∈ ([] : List (Addr × Obj)) ++ [] from hp) (by simp)⟩
  have loop : codeAny (model X.prog X.w) X.A (.compLoop (.ListComp elt [⟨tg, iter, ifs, 0⟩] scope pos) 0 (.ref it) (.ref D) ce) (compPost (model X.prog X.w) X.A X.xe use Qf (.ref D) s3.heap.objs.size) s4 := by
    refine compLoop_any (fun n s' => ∃ i H', Inv (X.blk s3 H3 scope ce fp) [] (wipe σ (own.map (·.2))) H' s' ∧ tn i s'.heap ∧ (∀ b ∈ fp, H' b = none) ∧ W i n H') ?_ m0 ⟨0, H3, I4, st4, nfp, w0⟩
    rintro n s5 ⟨i, H5, I5, st5, n5, w5⟩
    rcases turn i n H5 w5 with ⟨stop, qq⟩ | ⟨go, Nx, hNx, step⟩
    · have td := T.done (X.blk s3 H3 scope ce fp) rfl rfl rfl hcb i [] s5 _ H5 (fun _ _ => False) I5 (stat I5 n5) st5 stop
      refine thnF td fun r s6 ⟨hr, I6⟩ => ?_
      subst hr
      -- back in the def's context
      have I7 : Inv X pins σ H5 s6 := I3.call' (ch := fp) I6.os I6.base I6.hok I6.bare fun b hb => ⟨(f3 b hb).1.2.2.2.1, (f3 b hb).1.2.1, (f3 b hb).1.2.2.2.2.1, (f3 b hb).1.2.2.2.2.2⟩
      have nC : H5 s3.heap.objs.size = none := by
        have z : H5 ce.locals = none := I6.free
        rw [cL] at z
        exact z
      obtain ⟨m, hn, _⟩ := I6.loc
      have hn : s6.heap.Ns ce.locals m := hn
      rw [cL] at hn
      exact hRR D s3.heap.objs.size s6 m H5 I7 qq hn (I3.fpOk (Nat.le_refl _) nC)
    · have ti := T.item (X.blk s3 H3 scope ce fp) rfl rfl rfl hcb i [] s5 _ H5 (fun _ _ => False) I5 (stat I5 n5) st5 go
      refine thnF ti fun r s6 ⟨u, hr, h6⟩ => ?_
      subst hr
      refine thnF h6 fun _ s7 ⟨x, H7, I7, r7, y7, st7, n7⟩ => ?_
      have I7' := I7.pinned (stat I7 n7) (T.obj _ _ st7)
      refine thnF (pg.run _ s7 _ H7 x u _ I7' r7 (step x H7 y7)) fun _ s8 ⟨σ8, H8, I8, hw8, q8⟩ => ?_
      refine thnF (pt.run _ s8 σ8 H8 _ I8 q8) fun b s9 ⟨H9, I9, q9⟩ => ?_
      -- the turn's end
      have fin : ∀ {s' : Shared} {H' : Hp}, Inv (X.blk s3 H3 scope ce fp) ([] ++ pinsAt fp s7.heap) σ8 H' s' → Nx H' → ∃ m, m < n ∧ ∃ i H', Inv (X.blk s3 H3 scope ce fp) [] (wipe σ (own.map (·.2))) H' s' ∧ tn i s'.heap ∧ (∀ b ∈ fp, H' b = none) ∧ W i m H' := fun {s' H'} I' nx => by
        obtain ⟨m', hm, w'⟩ := hNx H' nx
        have pin' : ∀ b ∈ fp, ∀ o, s7.heap.get? b = some o → s'.heap.get? b = some o ∧ H' b = none := fun b hb o e =>
          let z := I'.pin (b, o) (List.mem_append_right _ (List.mem_append_right _ (mem_pinsAt hb e)))
          ⟨z.1, z.2.1⟩
        have hl : (wipe σ (own.map (·.2))).length = σ8.length := by rw [← hw8, wipe_length]
        refine ⟨m', hm, i + 1, H', (I'.unpinned (pins := [])).weak hl (fun j v e => ?_), T.keep _ _ _ st7 fun b hb o e => (pin' b hb o e).1, fun b hb => ?_, w'⟩
        · rw [← hw8] at e
          exact (wipe_some e).1
        · obtain ⟨o, e, _⟩ := T.obj _ _ st7 b hb
          exact (pin' b hb o e).2
      cases b with
      | false =>
        simp only [Bool.false_eq_true, if_false] at q9 ⊢
        exact fin I9 q9
      | true =>
        simp only [if_true] at q9 ⊢
        refine thnF (pe.run _ s9 σ8 H9 _ I9 q9) fun z s10 ⟨yv, H10, I10, r10, acc, hD10, hz10, nx⟩ => ?_
        exact app_ok (X := X.blk s3 H3 scope ce fp) I10 hD10 hz10 r10 fun s11 I11 => fin I11 nx
  exact codeAny_compStart_list loop (T.self X.A 0 _ _ _ st4 loop)
theorem pe_lcI {elt tg iter : Expr} {ifs : List Expr} {scope : Scope} {own : List (Str × Nat)} {pos : Pos} {wi : TI} {g : TG} {tt : TT} {te : TE} (hc : HotI X p) (hN : X.N.Nodup) (hi : PII X p tg iter wi) (ok : BlkOk X.N X.env.scope scope own)
    (hg : ∀ (s : Shared) (H : Hp) (C : Addr) (cl : List (Str × Addr)) (fp : List Addr), HotI (X.blk s H scope (compEnvC scope cl C X.env) fp) p → PG (X.blk s H scope (compEnvC scope cl C X.env) fp) tg g) (ht : ∀ (s : Shared) (H : Hp) (C : Addr) (cl : List (Str × Addr)) (fp : List Addr), HotI (X.blk s H scope (compEnvC scope cl C X.env) fp) p → PTs (X.blk s H scope (compEnvC scope cl C X.env) fp) ifs tt)
    (he : ∀ (s : Shared) (H : Hp) (C : Addr) (cl : List (Str × Addr)) (fp : List Addr), HotI (X.blk s H scope (compEnvC scope cl C X.env) fp) p → PE (X.blk s H scope (compEnvC scope cl C X.env) fp) elt te) (hs : ∀ x, foldedSetIterable iter X.env x = pure x := by intro _; rfl) :
    PE X (.ListComp elt [⟨tg, iter, ifs, 0⟩] scope pos) (tLc wi g tt te (own.map (·.2))) := by
  refine ⟨fun pins s σ H Q I h => ?_⟩
  rw [eval_ListComp]
  refine lc_coreI hc hN I hi ok hg ht he hs h fun D C s' m H' I' q hn f => ⟨m, hn, fun h'' sb => ?_⟩
  obtain ⟨f0, f1, f2, f3, f4, f5⟩ := f
  exact ⟨.ref D, H', I'.turned (t' := s'.toks) (fun b o hb e => (sb.2 b hb).trans e) f0 f1 f3 f4 f5, rfl, q⟩
/-! ### all(a list) -/
theorem walks_listI {prog : Program} {w : World} {A : Around} {x1 : Addr} (I ax : Addr) (hne : ax ≠ I) (h1 : x1 ≠ I) (items : Array Value) :
    Walks prog w A I [I, ax, x1] [I] items.size (fun i v => items[i]? = some v) (fun i h => (h.IsListIter I ax i ∧ h.IsList ax items) ∧ HotX.HotAt A x1 h) where
  sub := fun b hb => by simp at hb; simp [hb]
  frame := fun _ _ _ st hk => ⟨⟨st.1.1.at fun o e => hk I (by simp) o e, st.1.2.at fun o e => hk ax (by simp) o e⟩, by
    obtain ⟨hh, o, vs, e, d, c⟩ := st.2
    exact ⟨hh, o, vs, hk x1 (by simp) o e, d, c⟩⟩
  item := fun i s Q E hi st hQ => by
    refine wpAny_pyNext_list_item st.1.1 st.1.2 (x := items[i]) (by simp [hi]) fun h' hit' hs' => ?_
    refine hQ _ h' s.toks (by simp [hi]) ⟨⟨hit', st.1.2.extBut hs'.extBut hne⟩, ?_⟩ fun b o hb e => hs'.extBut b o (fun h => hb (by simp [h])) e
    obtain ⟨hh, o, vs, e, d, c⟩ := st.2
    exact ⟨hh, o, vs, hs'.extBut _ _ h1 e, d, c⟩
  done := fun s Q E st hQ => HotK.next_list_end_hot st.2 st.1.1 st.1.2 (by simp) h1 fun h' he' => hQ h' s.toks fun b o hb e => he' b o (fun h => hb (by simp [h])) e
  self := fun _ _ _ _ st hQ => wpAny_pyIter_listiter st.1.1 hQ
theorem cr_allI (hc : HotI X p) : CallR X (.builtin "all") (rAll X.K) := by
  intro pins s σ H vs us Q I r h
  obtain ⟨a, bs, rfl, hs, q⟩ := h
  obtain ⟨its, rv, hl, _⟩ := I.list hs
  rw [Vals.ref1 r]
  have hb := rv.bls
  have hlt : p.1 ≠ s.heap.objs.size := Nat.ne_of_lt (Heap.lt_size (hc.at' _ _ _ _ I).1)
  refine call_all_walk (iter_any hl.isList fun s₂ e2 st hne => ?_)
  subst e2
  refine ⟨_, _, _, _, _, _, _, rfl, walks_listI (A := X.A.in1) (x1 := p.1) _ a hne hlt its.toArray, ⟨st, ?_⟩, truth_bools hb, fun h' tk hk => ?_⟩
  · obtain ⟨hh, o, vs, e, d, c⟩ := hc.is I
    exact ⟨hh, o, vs, Heap.get?_push_of_some _ e, d, c⟩
  refine ⟨.bl _, H, I.kept fun b o eo => hk b o (fun hmem => ?_) (Heap.get?_push_of_some _ eo), ?_, q⟩
  · rcases List.mem_cons.mp hmem with e1 | hmem
    · exact absurd (e1 ▸ Heap.lt_size eo) (Nat.lt_irrefl _)
    · cases hmem
  · show Value.bool _ = Value.bool _
    rw [← all_range, hb, List.size_toArray, List.length_map]
end
/-! ### defs -/
theorem _root_.L2H.RoomH.units64 {k : Nat} {A : Around} (r : L2H.RoomH k A) : A.units + 64 < cLine := by have := r.un; omega
structure OwnI (P : Program) (w : World) (K : PySem.W.Frag) (mg : Str → Option Value) (base : Heap) (x : Str) (k : Nat) (ps : List Str) (sp : Sp) : Prop where
  ex : ∃ f fd, L2H.FnH P w K mg base CX0 k f fd ps sp ∧ mg x = some (.ref f) ∧ PySem.W.keepIn K (.ref f) = true ∧ Binds K fd ps []
section
variable {X : Cx} {p : Addr × Obj} {k j : Nat} {ps : List Str} {sp : Sp} {x : Str} {q pos : Pos} {e : Expr} {es : List Expr} {t : TA}
theorem pe_ownI (O : OwnI X.prog X.w X.K X.mg X.base x k ps sp) (hr : L2H.RoomH j X.A) (hc : HotI X p) (ha : PA X (e :: es) t) (hk : k ≤ j := by decide) (hg : Gl X x := by rfl) (hdb : (x == ("__debug__" : Str)) = false := by decide)
    (he : starEach (e :: es) X.env = (false, eval e X.env) :: starEach es X.env := by rfl) (hpl : (backTo pos (starEach es X.env)).any (·.1) = false := by rfl) : PE X (.Call (.Name x q) (e :: es) [] pos) (tCall sp [] E0 t) := by
  obtain ⟨f, fd, F, hm, hkp, hb⟩ := O.ex
  refine ⟨fun pins s σ H Q I h => ?_⟩
  refine wpAny_Call_Name_kw (ld_glob I hg hm ?_ hdb)
  refine PySem.W.callWith_K (h₀ := X.base) I.ok.mod.kin hkp (thn (ha.run pos pins s σ H _ I h) fun us s1 ⟨vs, H1, I1, r, q⟩ => ⟨I1.kIn, ?_⟩) he hpl
  have q : sp (vs ++ []) H1 Q E0 := q
  rw [List.append_nil] at q
  have hl : us.length = ps.length := by rw [← r.length]; exact F.len _ _ _ _ q
  have b := hb s1 us I1.kIn (by rw [List.append_nil]; exact hl)
  rw [List.append_nil] at b
  obtain ⟨h1, h2⟩ := hc.at' _ _ _ _ I1
  refine wpAny_call (codeAny_mono (F.run X.A X.stack s1 H1 ⟨us, []⟩ us vs Q E0 p (hr.mono hk) hc.hot ⟨h1, h2, hc.nfs, hc.ncl⟩ I1.env0 b r q) fun r s' hq => ?_)
  cases r with
  | error e => exact Passes0 pins σ H1 s1 e s' I1 hq
  | ok fl =>
    cases fl with
    | ret u => exact I1.after hq
    | next => exact False.elim hq
    | brk => exact False.elim hq
    | cont => exact False.elim hq
end
end L2

set_option Elab.async false
set_option linter.all false
set_option maxRecDepth 100000
set_option maxHeartbeats 4000000
/-! walks over texts and zips of tuples where an exception is handled. -/
namespace HotK
open PySem PySem.Spec PyProof.Rows RZ
theorem hotK {A : Around} {x1 : Addr} {h h' : Heap} (hot : HotX.HotAt A x1 h) (k : ∀ o, h.get? x1 = some o → h'.get? x1 = some o) : HotX.HotAt A x1 h' := by
  obtain ⟨hh, o, vs, e, d, c⟩ := hot
  exact ⟨hh, o, vs, k o e, d, c⟩
section
variable {prog : Program} {w : World} {A : Around} {E : Value → Shared → Prop} {s : Shared}
theorem next_ascii_end_hot {x1 : Addr} {it : Addr} {x : Str} {t : Tok} {i : Nat} {Q : Option Value → Shared → Prop} (hot : HotX.HotAt A x1 s.heap) (ne : x1 ≠ it)
    (hit : s.heap.IsStrIter it "str_ascii_iterator" x t i) (hx : x.cps[i]? = none)
    (hQ : ∀ h', Heap.ExtBut it s.heap h' → Q none { s with heap := h' }) : wpAny (model prog w) A (pyNext (.ref it)) Q E s := by
  obtain ⟨o, ho, hc, hd⟩ := id hit
  unfold pyNext
  refine wpAny_bind (wpAny_attempt (wpAny_callSpecial?_slot (name := Str.ofString "__next__") hit.typeIs F.slot_str_ascii_iterator_next
    (wpAny_call_entry F.slot_str_ascii_iterator_next hit.typeIs F.entry_str_ascii_iterator_next ?_ (F.args_str_ascii_iterator_next_1 _))))
  show wpAny _ _ (field (.ref it) 0 >>= _) _ _ s
  refine wpAny_bind (wpAny_field ho hd (x := .str x t) rfl ?_)
  show wpAny _ _ (field (.ref it) 1 >>= _) _ _ s
  refine wpAny_bind (wpAny_field ho hd (x := .int i 0) rfl ?_)
  simp only [Int.toNat_natCast, hx]
  refine wpAny_bind (wpAny_rule (wpAny_bind (wpAny_setField ho hd (by simp) (wpAny_bind (wpAny_letGo ?_)))))
  show wpAny _ _ (newExc (.type "StopIteration") [] >>= _) _ _ _
  refine wpAny_bind ?_
  simp only [newExc, newTuple]
  refine wpAny_bind (wpAny_newObj_type ?_ (by size_fits))
  refine wpAny_bind (m := firstArgMember _ _) (wpAny_of_eq (a := Value.none) (by first | rfl | (simp only [firstArgMember]; rfl)) ?_)
  refine wpAny_newObj_type ?_ (by size_fits)
  have kb : ∀ (g : Obj → Obj) b o, b ≠ it → s.heap.get? b = some o → (s.heap.update it g).get? b = some o := fun g b o hb e => (Heap.get?_update_other _ _ (Ne.symm hb)).trans e
  obtain ⟨hh, o1, vs1, h1, d1, c1⟩ := hot
  refine HotX.raiseNew_hot (x1 := x1) ⟨hh, o1, vs1, Heap.get?_push_of_some _ (Heap.get?_push_of_some _ (kb _ _ _ ne h1)), d1, c1⟩ (Nat.ne_of_lt (Heap.lt_size (Heap.get?_push_of_some _ (kb _ _ _ ne h1)))) (Heap.get?_push_size _ rfl) rfl (by first | (simp; done) | (simp; omega) | (simp only [Array.size_append]; simp; omega)) ?_
  refine wpAny_bind (wpAny_isInstance (T := "StopIteration") (b := true) ⟨_, Heap.get?_update_self _ (Heap.get?_push_size _ rfl) rfl, rfl⟩ isSubtype_stop ?_)
  refine wpAny_pure (hQ _ fun b o hb e => ?_)
  rw [Heap.get?_update_other _ _ (Nat.ne_of_gt (Heap.lt_size (Heap.get?_push_of_some _ (kb _ _ _ hb e))))]
  exact Heap.get?_push_of_some _ (Heap.get?_push_of_some _ (kb _ _ _ hb e))

theorem next_wide_end_hot {x1 : Addr} {it : Addr} {x : Str} {t : Tok} {i : Nat} {Q : Option Value → Shared → Prop} (hot : HotX.HotAt A x1 s.heap) (ne : x1 ≠ it)
    (hit : s.heap.IsStrIter it "str_iterator" x t i) (hx : x.cps[i]? = none)
    (hQ : ∀ h', Heap.ExtBut it s.heap h' → Q none { s with heap := h' }) : wpAny (model prog w) A (pyNext (.ref it)) Q E s := by
  obtain ⟨o, ho, hc, hd⟩ := id hit
  unfold pyNext
  refine wpAny_bind (wpAny_attempt (wpAny_callSpecial?_slot (name := Str.ofString "__next__") hit.typeIs F.slot_str_iterator_next
    (wpAny_call_entry F.slot_str_iterator_next hit.typeIs F.entry_str_iterator_next ?_ (F.args_str_iterator_next_1 _))))
  show wpAny _ _ (field (.ref it) 0 >>= _) _ _ s
  refine wpAny_bind (wpAny_field ho hd (x := .str x t) rfl ?_)
  show wpAny _ _ (field (.ref it) 1 >>= _) _ _ s
  refine wpAny_bind (wpAny_field ho hd (x := .int i 0) rfl ?_)
  simp only [Int.toNat_natCast, hx]
  refine wpAny_bind (wpAny_rule (wpAny_bind (wpAny_setField ho hd (by simp) (wpAny_bind (wpAny_letGo ?_)))))
  show wpAny _ _ (newExc (.type "StopIteration") [] >>= _) _ _ _
  refine wpAny_bind ?_
  simp only [newExc, newTuple]
  refine wpAny_bind (wpAny_newObj_type ?_ (by size_fits))
  refine wpAny_bind (m := firstArgMember _ _) (wpAny_of_eq (a := Value.none) (by first | rfl | (simp only [firstArgMember]; rfl)) ?_)
  refine wpAny_newObj_type ?_ (by size_fits)
  have kb : ∀ (g : Obj → Obj) b o, b ≠ it → s.heap.get? b = some o → (s.heap.update it g).get? b = some o := fun g b o hb e => (Heap.get?_update_other _ _ (Ne.symm hb)).trans e
  obtain ⟨hh, o1, vs1, h1, d1, c1⟩ := hot
  refine HotX.raiseNew_hot (x1 := x1) ⟨hh, o1, vs1, Heap.get?_push_of_some _ (Heap.get?_push_of_some _ (kb _ _ _ ne h1)), d1, c1⟩ (Nat.ne_of_lt (Heap.lt_size (Heap.get?_push_of_some _ (kb _ _ _ ne h1)))) (Heap.get?_push_size _ rfl) rfl (by first | (simp; done) | (simp; omega) | (simp only [Array.size_append]; simp; omega)) ?_
  refine wpAny_bind (wpAny_isInstance (T := "StopIteration") (b := true) ⟨_, Heap.get?_update_self _ (Heap.get?_push_size _ rfl) rfl, rfl⟩ isSubtype_stop ?_)
  refine wpAny_pure (hQ _ fun b o hb e => ?_)
  rw [Heap.get?_update_other _ _ (Nat.ne_of_gt (Heap.lt_size (Heap.get?_push_of_some _ (kb _ _ _ hb e))))]
  exact Heap.get?_push_of_some _ (Heap.get?_push_of_some _ (kb _ _ _ hb e))

theorem nextOf_tuple_end_hot {x1 : Addr} {it l : Addr} {i : Nat} {items} {Q : Value → Shared → Prop} (hot : HotX.HotAt A x1 s.heap) (ne : x1 ≠ it)
    (hit : s.heap.IsTupleIter it l i) (hl : s.heap.IsTuple l items) (hx : items[i]? = none)
    (hE : ∀ h' e, Heap.ExtBut it s.heap h' → (∃ o, h'.get? e = some o ∧ o.cls = .type "StopIteration") → E (.ref e) { s with heap := h' }) :
    wpAny (model prog w) A (Builtin.SmallTypes.nextOf (.ref it)) Q E s := by
  obtain ⟨o, ho, hc, hd⟩ := id hit
  obtain ⟨ol, hol, _, nl, hdl⟩ := hl
  unfold Builtin.SmallTypes.nextOf
  refine wpAny_bind (wpAny_callSpecial?_slot (name := Str.ofString "__next__") hit.typeIs F.slot_tuple_iterator_next
    (wpAny_call_entry F.slot_tuple_iterator_next hit.typeIs F.entry_tuple_iterator_next ?_ (F.args_tuple_iterator_next_1 _)))
  show wpAny _ _ (field (.ref it) 0 >>= _) _ _ s
  refine wpAny_bind (wpAny_field ho hd (x := .ref l) rfl ?_)
  show wpAny _ _ (if (Value.ref l == Value.none) = true then _ else _) _ _ s
  rw [if_neg (show ¬ ((Value.ref l == Value.none) = true) from Bool.false_ne_true)]
  show wpAny _ _ (field (.ref it) 1 >>= _) _ _ s
  refine wpAny_bind (wpAny_field ho hd (x := .int i 0) rfl ?_)
  show wpAny _ _ (seqItems? (.ref l) >>= _) _ _ s
  refine wpAny_bind (wpAny_seqItems hol hdl ?_)
  simp only [Int.toNat_natCast, hx]
  refine wpAny_bind (wpAny_rule (wpAny_bind (wpAny_setField ho hd (by simp) ?_)))
  show wpAny _ _ (newExc (.type "StopIteration") [] >>= _) _ _ _
  refine wpAny_bind ?_
  simp only [newExc, newTuple]
  refine wpAny_bind (wpAny_newObj_type ?_ (by size_fits))
  refine wpAny_bind (m := firstArgMember _ _) (wpAny_of_eq (a := Value.none) (by first | rfl | (simp only [firstArgMember]; rfl)) ?_)
  refine wpAny_newObj_type ?_ (by size_fits)
  have kb : ∀ (g : Obj → Obj) b o, b ≠ it → s.heap.get? b = some o → (s.heap.update it g).get? b = some o := fun g b o hb e => (Heap.get?_update_other _ _ (Ne.symm hb)).trans e
  obtain ⟨hh, o1, vs1, h1, d1, c1⟩ := hot
  refine HotX.raiseNew_hot (x1 := x1) ⟨hh, o1, vs1, Heap.get?_push_of_some _ (Heap.get?_push_of_some _ (kb _ _ _ ne h1)), d1, c1⟩ (Nat.ne_of_lt (Heap.lt_size (Heap.get?_push_of_some _ (kb _ _ _ ne h1)))) (Heap.get?_push_size _ rfl) rfl (by first | (simp; done) | (simp; omega) | (simp only [Array.size_append]; simp; omega)) ?_
  refine hE _ _ (fun b o hb e => ?_) ⟨_, Heap.get?_update_self _ (Heap.get?_push_size _ rfl) rfl, rfl⟩
  rw [Heap.get?_update_other _ _ (Nat.ne_of_gt (Heap.lt_size (Heap.get?_push_of_some _ (kb _ _ _ hb e))))]
  exact Heap.get?_push_of_some _ (Heap.get?_push_of_some _ (kb _ _ _ hb e))

theorem zipT_next_end_hot {x1 : Addr} {z TI TO i1 i2 l1 l2 : Addr} {k1 k2 : Nat} {xs ys : Array Value} {a b : Value} {Q : Fin → Shared → Prop} (hot : HotX.HotAt A x1 s.heap) (nz : x1 ≠ z) (nTO : x1 ≠ TO) (n1 : x1 ≠ i1) (n2 : x1 ≠ i2) (D : ZipApart z TI TO i1 i2 l1 l2)
    (hz : IsZip s.heap z TI TO .none) (hTI : IsPair s.heap TI (.ref i1) (.ref i2)) (hTO : IsPair s.heap TO a b)
    (h1 : s.heap.IsTupleIter i1 l1 k1) (h2 : s.heap.IsTupleIter i2 l2 k2) (hl1 : s.heap.IsTuple l1 xs) (hl2 : s.heap.IsTuple l2 ys) (hend : xs[k1]? = none ∨ ys[k2]? = none)
    (hE : ∀ h' e, (∀ c o, c ≠ z → c ≠ TO → c ≠ i1 → c ≠ i2 → s.heap.get? c = some o → h'.get? c = some o) → (∃ o, h'.get? e = some o ∧ o.cls = .type "StopIteration") → E (.ref e) { s with heap := h' }) :
    wpAny (model prog w) A (Builtin.«zip.__next__» ⟨[.ref z], []⟩) Q E s := by
  show wpAny _ _ (field (.ref z) 2 >>= _) _ _ _
  refine wpAny_bind (wpAny_field hz rfl (x := .bool false) rfl ?_)
  show wpAny _ _ (field (.ref z) 3 >>= _) _ _ _
  refine wpAny_bind (wpAny_field hz rfl (x := .ref TI) rfl ?_)
  refine wpAny_bind (wpAny_seqItems hTI rfl ?_)
  show wpAny _ _ (Builtin.SmallTypes.ownedTupleIsFree (.ref z) >>= _) _ _ _
  refine wpAny_bind ?_
  unfold Builtin.SmallTypes.ownedTupleIsFree
  refine wpAny_bind (wpAny_field hz rfl (x := .none) rfl (wpAny_pure ?_))
  simp only [if_true]
  refine wpAny_bind (wpAny_rule ?_)
  refine wpAny_bind (wpAny_field hz rfl (x := .ref TO) rfl ?_)
  refine wpAny_bind (wpAny_setField_rec hz (by simp) fun h₁ hz₁ hs₁ => ?_)
  replace hz₁ : IsZip h₁ z TI TO .ellipsis := hz₁
  refine wpAny_bind ?_
  simp only [List.zipIdx_cons, List.zipIdx_nil, List.forIn_cons, List.forIn_nil]
  refine wpAny_bind (wpAny_bind (wpAny_onRaise ?_))
  show wpAny _ _ (Builtin.SmallTypes.nextOf (.ref i1) >>= _) _ _ _
  cases hx : xs[k1]? with
  | none =>
    refine wpAny_bind (nextOf_tuple_end_hot (hotK hot (fun o e => hs₁.extBut _ o nz e)) n1 (h1.extBut hs₁.extBut D.i1z) (hl1.extBut hs₁.extBut D.l1z) hx fun h₂ e hs₂ he => ?_)
    obtain ⟨oe, hoe, hce⟩ := he
    have hz₂ : IsZip h₂ z TI TO .ellipsis := hs₂ _ _ D.i1z.symm hz₁
    have hez : e ≠ z := fun x => by subst x; rw [hz₂] at hoe; cases hoe; simp at hce
    refine wpAny_setField_rec hz₂ (by simp) fun h₃ _ hs₃ => hE h₃ e (fun c o c1 _ c3 _ x => hs₃.extBut _ _ c1 (hs₂ _ _ c3 (hs₁.extBut _ _ c1 x))) ⟨oe, hs₃.extBut _ _ hez hoe, hce⟩
  | some x =>
    have hy : ys[k2]? = none := by rcases hend with h | h; rw [hx] at h; cases h; exact h
    refine wpAny_bind (nextOf_tuple_item (h1.extBut hs₁.extBut D.i1z) (hl1.extBut hs₁.extBut D.l1z) hx fun h₂ h1₂ hs₂ => wpAny_pure ?_)
    have hTO₂ : IsPair h₂ TO a b := hs₂.extBut _ _ D.TOi1 (hs₁.extBut _ _ D.TOz hTO)
    refine wpAny_bind (wpAny_seqItems hTO₂ rfl ?_)
    refine wpAny_bind (wpAny_updateSeq_pair hTO₂ fun h₃ hTO₃ hs₃ => ?_)
    refine wpAny_bind (wpAny_letGo (wpAny_pure ?_))
    refine wpAny_bind (wpAny_bind (wpAny_onRaise ?_))
    show wpAny _ _ (Builtin.SmallTypes.nextOf (.ref i2) >>= _) _ _ _
    refine wpAny_bind (nextOf_tuple_end_hot (hotK hot (fun o e => hs₃.extBut _ o nTO (hs₂.extBut _ o n1 (hs₁.extBut _ o nz e)))) n2 (((h2.extBut hs₁.extBut D.i2z).extBut hs₂.extBut D.i12.symm).extBut hs₃.extBut D.TOi2.symm)
      (((hl2.extBut hs₁.extBut D.l2z).extBut hs₂.extBut D.l2i1).extBut hs₃.extBut D.l2TO) hy fun h₄ e hs₄ he => ?_)
    obtain ⟨oe, hoe, hce⟩ := he
    have hz₄ : IsZip h₄ z TI TO .ellipsis := hs₄ _ _ D.i2z.symm (hs₃.extBut _ _ D.TOz.symm (hs₂.extBut _ _ D.i1z.symm hz₁))
    have hez : e ≠ z := fun x => by subst x; rw [hz₄] at hoe; cases hoe; simp at hce
    refine wpAny_setField_rec hz₄ (by simp) fun h₅ _ hs₅ => hE h₅ e (fun c o c1 c2 c3 c4 x => hs₅.extBut _ _ c1 (hs₄ _ _ c4 (hs₃.extBut _ _ c2 (hs₂.extBut _ _ c3 (hs₁.extBut _ _ c1 x))))) ⟨oe, hs₅.extBut _ _ hez hoe, hce⟩
theorem pyNext_zipT_end_hot {x1 : Addr} {z TI TO i1 i2 l1 l2 : Addr} {k1 k2 : Nat} {xs ys : Array Value} {a b : Value} {Q : Option Value → Shared → Prop} (hot : HotX.HotAt A x1 s.heap) (nz : x1 ≠ z) (nTO : x1 ≠ TO) (n1 : x1 ≠ i1) (n2 : x1 ≠ i2) (D : ZipApart z TI TO i1 i2 l1 l2)
    (hz : IsZip s.heap z TI TO .none) (hTI : IsPair s.heap TI (.ref i1) (.ref i2)) (hTO : IsPair s.heap TO a b)
    (h1 : s.heap.IsTupleIter i1 l1 k1) (h2 : s.heap.IsTupleIter i2 l2 k2) (hl1 : s.heap.IsTuple l1 xs) (hl2 : s.heap.IsTuple l2 ys) (hend : xs[k1]? = none ∨ ys[k2]? = none)
    (hQ : ∀ h', (∀ c o, c ≠ z → c ≠ TO → c ≠ i1 → c ≠ i2 → s.heap.get? c = some o → h'.get? c = some o) → Q none { s with heap := h' }) : wpAny (model prog w) A (pyNext (.ref z)) Q E s := by
  have hT : s.TypeIs (.ref z) "zip" := ⟨_, hz, rfl⟩
  unfold pyNext
  refine wpAny_bind (wpAny_attempt (wpAny_callSpecial?_slot (name := Str.ofString "__next__") hT F.slot_zip_next
    (wpAny_call_entry F.slot_zip_next hT F.entry_zip_next (zipT_next_end_hot hot nz nTO n1 n2 D hz hTI hTO h1 h2 hl1 hl2 hend fun h' e hk he => ?_) (F.args_zip_next_1 _))))
  obtain ⟨o, ho, hc⟩ := he
  refine wpAny_bind (wpAny_isInstance (T := "StopIteration") (b := true) ⟨o, ho, hc⟩ isSubtype_stop ?_)
  exact wpAny_pure (hQ _ hk)
theorem nextOf_list_end_hot {x1 : Addr} {it l : Addr} {i : Nat} {items} {Q : Value → Shared → Prop} (hot : HotX.HotAt A x1 s.heap) (ne : x1 ≠ it)
    (hit : s.heap.IsListIter it l i) (hl : s.heap.IsList l items) (hx : items[i]? = none)
    (hE : ∀ h' e, Heap.ExtBut it s.heap h' → (∃ o, h'.get? e = some o ∧ o.cls = .type "StopIteration") → E (.ref e) { s with heap := h' }) :
    wpAny (model prog w) A (Builtin.SmallTypes.nextOf (.ref it)) Q E s := by
  obtain ⟨o, ho, hc, hd⟩ := id hit
  obtain ⟨ol, hol, _, nl, hdl⟩ := hl
  unfold Builtin.SmallTypes.nextOf
  refine wpAny_bind (wpAny_callSpecial?_slot (name := Str.ofString "__next__") hit.typeIs slot_listiter_next
    (wpAny_call_entry slot_listiter_next hit.typeIs entry_listiter_next ?_ (args_listiter_next _)))
  show wpAny _ _ (field (.ref it) 0 >>= _) _ _ s
  refine wpAny_bind (wpAny_field ho hd (x := .ref l) rfl ?_)
  show wpAny _ _ (if (Value.ref l == Value.none) = true then _ else _) _ _ s
  rw [if_neg (show ¬ ((Value.ref l == Value.none) = true) from Bool.false_ne_true)]
  show wpAny _ _ (field (.ref it) 1 >>= _) _ _ s
  refine wpAny_bind (wpAny_field ho hd (x := .int i 0) rfl ?_)
  show wpAny _ _ (seqItems? (.ref l) >>= _) _ _ s
  refine wpAny_bind (wpAny_seqItems hol hdl ?_)
  simp only [Int.toNat_natCast, hx]
  refine wpAny_bind (wpAny_rule (wpAny_bind (wpAny_setField ho hd (by simp) ?_)))
  show wpAny _ _ (newExc (.type "StopIteration") [] >>= _) _ _ _
  refine wpAny_bind ?_
  simp only [newExc, newTuple]
  refine wpAny_bind (wpAny_newObj_type ?_ (by size_fits))
  refine wpAny_bind (m := firstArgMember _ _) (wpAny_of_eq (a := Value.none) (by first | rfl | (simp only [firstArgMember]; rfl)) ?_)
  refine wpAny_newObj_type ?_ (by size_fits)
  have kb : ∀ (g : Obj → Obj) b o, b ≠ it → s.heap.get? b = some o → (s.heap.update it g).get? b = some o := fun g b o hb e => (Heap.get?_update_other _ _ (Ne.symm hb)).trans e
  obtain ⟨hh, o1, vs1, h1, d1, c1⟩ := hot
  refine HotX.raiseNew_hot (x1 := x1) ⟨hh, o1, vs1, Heap.get?_push_of_some _ (Heap.get?_push_of_some _ (kb _ _ _ ne h1)), d1, c1⟩ (Nat.ne_of_lt (Heap.lt_size (Heap.get?_push_of_some _ (kb _ _ _ ne h1)))) (Heap.get?_push_size _ rfl) rfl (by first | (simp; done) | (simp; omega) | (simp only [Array.size_append]; simp; omega)) ?_
  refine hE _ _ (fun b o hb e => ?_) ⟨_, Heap.get?_update_self _ (Heap.get?_push_size _ rfl) rfl, rfl⟩
  rw [Heap.get?_update_other _ _ (Nat.ne_of_gt (Heap.lt_size (Heap.get?_push_of_some _ (kb _ _ _ hb e))))]
  exact Heap.get?_push_of_some _ (Heap.get?_push_of_some _ (kb _ _ _ hb e))

theorem zip_next_end_hot {x1 : Addr} {z TI TO i1 i2 l1 l2 : Addr} {k1 k2 : Nat} {xs ys : Array Value} {a b : Value} {Q : Fin → Shared → Prop} (hot : HotX.HotAt A x1 s.heap) (nz : x1 ≠ z) (nTO : x1 ≠ TO) (n1 : x1 ≠ i1) (n2 : x1 ≠ i2) (D : ZipApart z TI TO i1 i2 l1 l2)
    (hz : IsZip s.heap z TI TO .none) (hTI : IsPair s.heap TI (.ref i1) (.ref i2)) (hTO : IsPair s.heap TO a b)
    (h1 : s.heap.IsListIter i1 l1 k1) (h2 : s.heap.IsListIter i2 l2 k2) (hl1 : s.heap.IsList l1 xs) (hl2 : s.heap.IsList l2 ys) (hend : xs[k1]? = none ∨ ys[k2]? = none)
    (hE : ∀ h' e, (∀ c o, c ≠ z → c ≠ TO → c ≠ i1 → c ≠ i2 → s.heap.get? c = some o → h'.get? c = some o) → (∃ o, h'.get? e = some o ∧ o.cls = .type "StopIteration") → E (.ref e) { s with heap := h' }) :
    wpAny (model prog w) A (Builtin.«zip.__next__» ⟨[.ref z], []⟩) Q E s := by
  show wpAny _ _ (field (.ref z) 2 >>= _) _ _ _
  refine wpAny_bind (wpAny_field hz rfl (x := .bool false) rfl ?_)
  show wpAny _ _ (field (.ref z) 3 >>= _) _ _ _
  refine wpAny_bind (wpAny_field hz rfl (x := .ref TI) rfl ?_)
  refine wpAny_bind (wpAny_seqItems hTI rfl ?_)
  show wpAny _ _ (Builtin.SmallTypes.ownedTupleIsFree (.ref z) >>= _) _ _ _
  refine wpAny_bind ?_
  unfold Builtin.SmallTypes.ownedTupleIsFree
  refine wpAny_bind (wpAny_field hz rfl (x := .none) rfl (wpAny_pure ?_))
  simp only [if_true]
  refine wpAny_bind (wpAny_rule ?_)
  refine wpAny_bind (wpAny_field hz rfl (x := .ref TO) rfl ?_)
  refine wpAny_bind (wpAny_setField_rec hz (by simp) fun h₁ hz₁ hs₁ => ?_)
  replace hz₁ : IsZip h₁ z TI TO .ellipsis := hz₁
  refine wpAny_bind ?_
  simp only [List.zipIdx_cons, List.zipIdx_nil, List.forIn_cons, List.forIn_nil]
  refine wpAny_bind (wpAny_bind (wpAny_onRaise ?_))
  show wpAny _ _ (Builtin.SmallTypes.nextOf (.ref i1) >>= _) _ _ _
  cases hx : xs[k1]? with
  | none =>
    refine wpAny_bind (nextOf_list_end_hot (hotK hot (fun o e => hs₁.extBut _ o nz e)) n1 (h1.extBut hs₁.extBut D.i1z) (hl1.extBut hs₁.extBut D.l1z) hx fun h₂ e hs₂ he => ?_)
    obtain ⟨oe, hoe, hce⟩ := he
    have hz₂ : IsZip h₂ z TI TO .ellipsis := hs₂ _ _ D.i1z.symm hz₁
    have hez : e ≠ z := fun x => by subst x; rw [hz₂] at hoe; cases hoe; simp at hce
    refine wpAny_setField_rec hz₂ (by simp) fun h₃ _ hs₃ => hE h₃ e (fun c o c1 _ c3 _ x => hs₃.extBut _ _ c1 (hs₂ _ _ c3 (hs₁.extBut _ _ c1 x))) ⟨oe, hs₃.extBut _ _ hez hoe, hce⟩
  | some x =>
    have hy : ys[k2]? = none := by rcases hend with h | h; rw [hx] at h; cases h; exact h
    refine wpAny_bind (wpAny_nextOf_list_item (h1.extBut hs₁.extBut D.i1z) (hl1.extBut hs₁.extBut D.l1z) hx fun h₂ h1₂ hs₂ => wpAny_pure ?_)
    have hTO₂ : IsPair h₂ TO a b := hs₂.extBut _ _ D.TOi1 (hs₁.extBut _ _ D.TOz hTO)
    refine wpAny_bind (wpAny_seqItems hTO₂ rfl ?_)
    refine wpAny_bind (wpAny_updateSeq_pair hTO₂ fun h₃ hTO₃ hs₃ => ?_)
    refine wpAny_bind (wpAny_letGo (wpAny_pure ?_))
    refine wpAny_bind (wpAny_bind (wpAny_onRaise ?_))
    show wpAny _ _ (Builtin.SmallTypes.nextOf (.ref i2) >>= _) _ _ _
    refine wpAny_bind (nextOf_list_end_hot (hotK hot (fun o e => hs₃.extBut _ o nTO (hs₂.extBut _ o n1 (hs₁.extBut _ o nz e)))) n2 (((h2.extBut hs₁.extBut D.i2z).extBut hs₂.extBut D.i12.symm).extBut hs₃.extBut D.TOi2.symm)
      (((hl2.extBut hs₁.extBut D.l2z).extBut hs₂.extBut D.l2i1).extBut hs₃.extBut D.l2TO) hy fun h₄ e hs₄ he => ?_)
    obtain ⟨oe, hoe, hce⟩ := he
    have hz₄ : IsZip h₄ z TI TO .ellipsis := hs₄ _ _ D.i2z.symm (hs₃.extBut _ _ D.TOz.symm (hs₂.extBut _ _ D.i1z.symm hz₁))
    have hez : e ≠ z := fun x => by subst x; rw [hz₄] at hoe; cases hoe; simp at hce
    refine wpAny_setField_rec hz₄ (by simp) fun h₅ _ hs₅ => hE h₅ e (fun c o c1 c2 c3 c4 x => hs₅.extBut _ _ c1 (hs₄ _ _ c4 (hs₃.extBut _ _ c2 (hs₂.extBut _ _ c3 (hs₁.extBut _ _ c1 x))))) ⟨oe, hs₅.extBut _ _ hez hoe, hce⟩
theorem pyNext_zip_end_hot {x1 : Addr} {z TI TO i1 i2 l1 l2 : Addr} {k1 k2 : Nat} {xs ys : Array Value} {a b : Value} {Q : Option Value → Shared → Prop} (hot : HotX.HotAt A x1 s.heap) (nz : x1 ≠ z) (nTO : x1 ≠ TO) (n1 : x1 ≠ i1) (n2 : x1 ≠ i2) (D : ZipApart z TI TO i1 i2 l1 l2)
    (hz : IsZip s.heap z TI TO .none) (hTI : IsPair s.heap TI (.ref i1) (.ref i2)) (hTO : IsPair s.heap TO a b)
    (h1 : s.heap.IsListIter i1 l1 k1) (h2 : s.heap.IsListIter i2 l2 k2) (hl1 : s.heap.IsList l1 xs) (hl2 : s.heap.IsList l2 ys) (hend : xs[k1]? = none ∨ ys[k2]? = none)
    (hQ : ∀ h', (∀ c o, c ≠ z → c ≠ TO → c ≠ i1 → c ≠ i2 → s.heap.get? c = some o → h'.get? c = some o) → Q none { s with heap := h' }) : wpAny (model prog w) A (pyNext (.ref z)) Q E s := by
  have hT : s.TypeIs (.ref z) "zip" := ⟨_, hz, rfl⟩
  unfold pyNext
  refine wpAny_bind (wpAny_attempt (wpAny_callSpecial?_slot (name := Str.ofString "__next__") hT F.slot_zip_next
    (wpAny_call_entry F.slot_zip_next hT F.entry_zip_next (zip_next_end_hot hot nz nTO n1 n2 D hz hTI hTO h1 h2 hl1 hl2 hend fun h' e hk he => ?_) (F.args_zip_next_1 _))))
  obtain ⟨o, ho, hc⟩ := he
  refine wpAny_bind (wpAny_isInstance (T := "StopIteration") (b := true) ⟨o, ho, hc⟩ isSubtype_stop ?_)
  exact wpAny_pure (hQ _ hk)
end
end HotK
namespace L2
open PySem PySem.Spec PyProof.Rows PySem.KX
theorem str_item {prog : Program} {w : World} {A : Around} {it : Addr} {x : Str} {t : Tok} {ty : String} (hty : ty = "str_ascii_iterator" ∨ ty = "str_iterator") (i : Nat) (s : Shared) (Q : Option Value → Shared → Prop) (E : Value → Shared → Prop) (hi : i < x.cps.size) (st : s.heap.IsStrIter it ty x t i)
    (hQ : ∀ v h' tk, SignAt x i v → h'.IsStrIter it ty x t (i + 1) → (∀ b o, b ∉ [it] → s.heap.get? b = some o → h'.get? b = some o) → Q (some v) { s with heap := h', toks := tk }) : wpAny (model prog w) A (pyNext (.ref it)) Q E s := by
  rcases hty with e | e
  · subst e
    refine wpAny_pyNext_ascii_item st (c := x.cps[i]) (by simp [hi]) fun h' hit' hs' => ?_
    exact hQ _ h' (s.toks + 1) ⟨_, _, by simp [hi], rfl⟩ hit' fun b o hb e => hs'.extBut b o (fun h => hb (by simp [h])) e
  · subst e
    refine wpAny_pyNext_wide_item st (c := x.cps[i]) (by simp [hi]) fun h' hit' hs' => ?_
    exact hQ _ h' (s.toks + 1) ⟨_, _, by simp [hi], rfl⟩ hit' fun b o hb e => hs'.extBut b o (fun h => hb (by simp [h])) e
theorem turn_strI {p : Addr × Obj} {P : Program} {w : World} {K : PySem.W.Frag} {tg : Expr} (it : Addr) (x : Str) (t : Tok) (ty : String) (hty : ty = "str_ascii_iterator" ∨ ty = "str_iterator") (ne : p.1 ≠ it) :
    TurnI P w K p tg (Its x) [it] it (fun i h => h.IsStrIter it ty x t i) where
  mem := by simp
  obj := fun i h st b hb => by
    have e : b = it := by simpa using hb
    subst e
    obtain ⟨o, e, c, d⟩ := st
    exact ⟨o, e, fun v z => by rw [d] at z; cases z⟩
  keep := fun i h h' st k => let ⟨o, ho, r⟩ := st; ⟨o, k it (by simp) o ho, r⟩
  item := by
    intro X hP hw hK hc i pins s σ H E I hf st hg
    subst hP hw hK
    obtain ⟨f0, f1, f2, f3, f4, f5⟩ := hf it (by simp)
    have hno : ["enumerate", "zip", "dict_itemiterator", "dict_reverseitemiterator", "odict_iterator", "itertools.zip_longest", "itertools.pairwise"].contains ty = false := by
      rcases hty with e | e
      · rw [e]; decide
      · rw [e]; decide
    refine str_item hty i s _ _ hg st fun v h' tk hv st' kk => ?_
    obtain ⟨c, u, hcx, rfl⟩ := hv
    have I1 : Inv X pins σ H { s with heap := h', toks := tk } := I.turned (fun b o hb e => kk b o (by simpa using hb) e) f0 f1 f3 f4 f5
    obtain ⟨oi, e, cc, dd⟩ := id st'
    exact ⟨_, rfl, go_of (s := { s with heap := h', toks := tk }) e cc dd hno ⟨.str ⟨#[c]⟩, H, I1, ⟨u, rfl⟩, ⟨rfl, c, hcx, rfl⟩, st', fun b hb => (hf b hb).1⟩⟩
  done := by
    intro X hP hw hK hc i pins s σ H E I hf st hg
    subst hP hw hK
    obtain ⟨f0, f1, f2, f3, f4, f5⟩ := hf it (by simp)
    have hx : x.cps[i]? = none := Array.getElem?_eq_none hg
    rcases hty with e | e
    · rw [e] at st
      exact HotK.next_ascii_end_hot (hc.is I) ne st hx fun h' eb => ⟨rfl, I.turned (t' := s.toks) (fun b o hb e => eb b o hb e) f0 f1 f3 f4 f5⟩
    · rw [e] at st
      exact HotK.next_wide_end_hot (hc.is I) ne st hx fun h' eb => ⟨rfl, I.turned (t' := s.toks) (fun b o hb e => eb b o hb e) f0 f1 f3 f4 f5⟩
  self := fun A i s Q E st h => by
    rcases hty with e | e
    · rw [e] at st; exact wpAny_pyIter_striter_ascii st h
    · rw [e] at st; exact wpAny_pyIter_striter_wide st h
theorem pi_strI {X : Cx} {p : Addr × Obj} (hc : HotI X p) {tg e : Expr} {te : TE} (he : PE X e te) : PII X p tg e (iStr te) := by
  refine ⟨fun pins s σ H R I h => ?_⟩
  refine thn (he.run pins s σ H _ I h) fun v s1 ⟨y, H1, I1, r1, x, ex, q⟩ => ?_
  subst ex
  obtain ⟨t, rfl⟩ := r1
  have hlt : p.1 ≠ s1.heap.objs.size := Nat.ne_of_lt (Heap.lt_size (hc.at' _ _ _ _ I1).1)
  have fin : ∀ (o : Obj) (ty : String) (hty : ty = "str_ascii_iterator" ∨ ty = "str_iterator"), (s1.heap.push o).IsStrIter s1.heap.objs.size ty x t 0 → PIEI X p pins σ tg R (.ref s1.heap.objs.size) { s1 with heap := s1.heap.push o } := fun o ty hty st => by
    refine ⟨s1.heap.objs.size, [s1.heap.objs.size], _, _, H1, rfl, I1.kept (t' := s1.toks) fun b o e => Heap.get?_push_of_some _ e, turn_strI _ x t ty hty hlt, st, fun b hb => ?_, fun b hb => ?_, q⟩
    · have e : b = s1.heap.objs.size := by simpa using hb
      subst e
      exact I1.fpOk (Nat.le_refl _) (I1.hok.fresh (Nat.le_refl _))
    · have e : b = s1.heap.objs.size := by simpa using hb
      subst e
      exact Ne.symm hlt
  cases ha : x.cps.all (· < 128)
  · exact wpAny_pyIter_wide ha (fin _ "str_iterator" (.inr rfl) ⟨_, Heap.get?_push_size _ rfl, rfl, rfl⟩)
  · exact wpAny_pyIter_ascii ha (fin _ "str_ascii_iterator" (.inl rfl) ⟨_, Heap.get?_push_size _ rfl, rfl, rfl⟩)
end L2
namespace RZ
open PySem PySem.Spec PyProof.Rows L2
theorem turn_zipLI {p : Addr × Obj} {P : Program} {w : World} {K : PySem.W.Frag} {elts : List Expr} {kk : Nat} {tpos : Pos} {a b z TI TO i1 i2 : Addr} (D : ZipApart z TI TO i1 i2 a b) (nz : p.1 ≠ z) (nTO : p.1 ≠ TO) (n1 : p.1 ≠ i1) (n2 : p.1 ≠ i2) :
    TurnI P w K p (.Tuple elts kk tpos) (Itz K a b) [z, TI, TO, i1, i2] z (fun i h => IsZip h z TI TO .none ∧ IsPair h TI (.ref i1) (.ref i2) ∧ (∃ x y, IsPair h TO x y) ∧ h.IsListIter i1 a i ∧ h.IsListIter i2 b i) where
  mem := by simp
  obj := fun i h st c hc => by
    obtain ⟨hz, hTI, ⟨x, y, hTO⟩, ⟨o1, e1, _, d1⟩, ⟨o2, e2, _, d2⟩⟩ := st
    have e' : c = z ∨ c = TI ∨ c = TO ∨ c = i1 ∨ c = i2 := by simpa using hc
    rcases e' with q | q | q | q | q
    · rw [q]; exact ⟨_, hz, fun v q => nomatch q⟩
    · rw [q]; exact ⟨_, hTI, fun v q => nomatch q⟩
    · rw [q]; exact ⟨_, hTO, fun v q => nomatch q⟩
    · rw [q]; exact ⟨o1, e1, fun v q => by rw [d1] at q; cases q⟩
    · rw [q]; exact ⟨o2, e2, fun v q => by rw [d2] at q; cases q⟩
  keep := fun i h h' st k => by
    obtain ⟨hz, hTI, ⟨x, y, hTO⟩, h1, h2⟩ := st
    exact ⟨k z (by simp) _ hz, k TI (by simp) _ hTI, ⟨x, y, k TO (by simp) _ hTO⟩, h1.at fun o q => k i1 (by simp) o q, h2.at fun o q => k i2 (by simp) o q⟩
  item := by
    intro X hP hw hK hc i pins s σ H E I hf st hg
    subst hP hw hK
    obtain ⟨hz, hTI, ⟨x0, y0, hTO⟩, h1, h2⟩ := st
    obtain ⟨xs, ys, x, y, hqx, hqy, hx, hy⟩ := hg
    obtain ⟨its, rv, pp, _⟩ := I.list hqx
    obtain ⟨its2, rv2, p2, _⟩ := I.list hqy
    obtain ⟨u, hu, ru⟩ := rv.get hx
    obtain ⟨u2, hu2, ru2⟩ := rv2.get hy
    have hzl : z < s.heap.objs.size := Heap.lt_size hz
    refine wpAny_pyNext_zip_item D hz hTI hTO h1 h2 pp.isList p2.isList (x := u) (y := u2) (by simpa using hu) (by simpa using hu2) fun h' z' TO' h1' h2' hT hsz hk => ?_
    refine ⟨_, rfl, wpAny_letOwnedTupleGo_zip (s := { s with heap := h' }) z' fun h'' z'' sb => ?_⟩
    have hT2 : h''.get? s.heap.objs.size = some { cls := .type "tuple", data := .seq #[u, u2] } := (sb.2 _ (Nat.ne_of_gt hzl)).trans hT
    have new : ObjOk X.prog X.w (upd H s.heap.objs.size (.tup [x, y])) h'' s.heap.objs.size (.tup [x, y]) :=
      ⟨by show 2 ≤ sizeLine; decide, [u, u2], .cons ru (.cons ru2 .nil), ⟨_, hT2, rfl, _, rfl⟩⟩
    have I1 : Inv X pins σ (upd H s.heap.objs.size (.tup [x, y])) { s with heap := h'' } :=
      I.turnedNew (t' := s.toks) (ch := [z, TI, TO, i1, i2]) (fun c o hb q => (sb.2 c (fun q' => hb (by simp [q']))).trans (hk c o (fun q' => hb (by simp [q'])) (fun q' => hb (by simp [q'])) (fun q' => hb (by simp [q'])) (fun q' => hb (by simp [q'])) q)) hf (Nat.le_refl _) new
    refine ⟨.ref s.heap.objs.size, _, I1, rfl, ⟨_, x, y, rfl, I.hok.fresh (Nat.le_refl _), rfl, fun l hl => by rw [I.list_inj hl hqx]; exact hx, fun l hl => by rw [I.list_inj hl hqy]; exact hy⟩, ⟨z'', ?_, ⟨u, u2, ?_⟩, ?_, ?_⟩, fun c hcm => ?_⟩
    · exact (sb.2 _ D.TIz).trans (hk _ _ D.TIz D.TITO D.TIi1 D.TIi2 hTI)
    · exact (sb.2 _ D.TOz).trans TO'
    · exact h1'.at fun o q => (sb.2 _ D.i1z).trans q
    · exact h2'.at fun o q => (sb.2 _ D.i2z).trans q
    · have hlt : c < s.heap.objs.size := by
        have e' : c = z ∨ c = TI ∨ c = TO ∨ c = i1 ∨ c = i2 := by simpa using hcm
        rcases e' with q | q | q | q | q
        · rw [q]; exact hzl
        · rw [q]; exact Heap.lt_size hTI
        · rw [q]; exact Heap.lt_size hTO
        · rw [q]; obtain ⟨_, e1, _⟩ := h1; exact Heap.lt_size e1
        · rw [q]; obtain ⟨_, e2, _⟩ := h2; exact Heap.lt_size e2
      rw [upd_ne (Nat.ne_of_lt hlt)]
      exact (hf c hcm).1
  done := by
    intro X hP hw hK hc i pins s σ H E I hf st hg
    subst hP hw hK
    obtain ⟨hz, hTI, ⟨x0, y0, hTO⟩, h1, h2⟩ := st
    obtain ⟨xs, ys, hqx, hqy, hend⟩ := hg
    obtain ⟨its, rv, pp, _⟩ := I.list hqx
    obtain ⟨its2, rv2, p2, _⟩ := I.list hqy
    have l1 := rv.length
    have l2 := rv2.length
    have he : its.toArray[i]? = none ∨ its2.toArray[i]? = none := by
      rcases hend with q | q
      · exact .inl (by simp; omega)
      · exact .inr (by simp; omega)
    exact HotK.pyNext_zip_end_hot (hc.is I) nz nTO n1 n2 D hz hTI hTO h1 h2 pp.isList p2.isList he fun h' hk => ⟨rfl, I.turnedL (t' := s.toks) (ch := [z, TI, TO, i1, i2]) (fun c o hb q =>
      hk c o (fun q' => hb (by simp [q'])) (fun q' => hb (by simp [q'])) (fun q' => hb (by simp [q'])) (fun q' => hb (by simp [q'])) q) hf⟩
  self := fun A i s Q E st h => wpAny_pyIter_zip st.1 h
theorem turn_zipTI {p : Addr × Obj} {P : Program} {w : World} {K : PySem.W.Frag} {elts : List Expr} {kk : Nat} {tpos : Pos} {a b z TI TO i1 i2 : Addr} (D : ZipApart z TI TO i1 i2 a b) (nz : p.1 ≠ z) (nTO : p.1 ≠ TO) (n1 : p.1 ≠ i1) (n2 : p.1 ≠ i2) :
    TurnI P w K p (.Tuple elts kk tpos) (ItzT K a b) [z, TI, TO, i1, i2] z (fun i h => IsZip h z TI TO .none ∧ IsPair h TI (.ref i1) (.ref i2) ∧ (∃ x y, IsPair h TO x y) ∧ h.IsTupleIter i1 a i ∧ h.IsTupleIter i2 b i) where
  mem := by simp
  obj := fun i h st c hc => by
    obtain ⟨hz, hTI, ⟨x, y, hTO⟩, ⟨o1, e1, _, d1⟩, ⟨o2, e2, _, d2⟩⟩ := st
    have e' : c = z ∨ c = TI ∨ c = TO ∨ c = i1 ∨ c = i2 := by simpa using hc
    rcases e' with q | q | q | q | q
    · rw [q]; exact ⟨_, hz, fun v q => nomatch q⟩
    · rw [q]; exact ⟨_, hTI, fun v q => nomatch q⟩
    · rw [q]; exact ⟨_, hTO, fun v q => nomatch q⟩
    · rw [q]; exact ⟨o1, e1, fun v q => by rw [d1] at q; cases q⟩
    · rw [q]; exact ⟨o2, e2, fun v q => by rw [d2] at q; cases q⟩
  keep := fun i h h' st k => by
    obtain ⟨hz, hTI, ⟨x, y, hTO⟩, h1, h2⟩ := st
    exact ⟨k z (by simp) _ hz, k TI (by simp) _ hTI, ⟨x, y, k TO (by simp) _ hTO⟩, h1.at fun o q => k i1 (by simp) o q, h2.at fun o q => k i2 (by simp) o q⟩
  item := by
    intro X hP hw hK hc i pins s σ H E I hf st hg
    subst hP hw hK
    obtain ⟨hz, hTI, ⟨x0, y0, hTO⟩, h1, h2⟩ := st
    obtain ⟨xs, ys, x, y, hqx, hqy, hx, hy⟩ := hg
    obtain ⟨its, rv, pp, _⟩ := I.tuple hqx
    obtain ⟨its2, rv2, p2, _⟩ := I.tuple hqy
    obtain ⟨u, hu, ru⟩ := rv.get hx
    obtain ⟨u2, hu2, ru2⟩ := rv2.get hy
    have hzl : z < s.heap.objs.size := Heap.lt_size hz
    refine pyNext_zipT_item D hz hTI hTO h1 h2 pp p2 (x := u) (y := u2) (by simpa using hu) (by simpa using hu2) fun h' z' TO' h1' h2' hT hsz hk => ?_
    refine ⟨_, rfl, wpAny_letOwnedTupleGo_zip (s := { s with heap := h' }) z' fun h'' z'' sb => ?_⟩
    have hT2 : h''.get? s.heap.objs.size = some { cls := .type "tuple", data := .seq #[u, u2] } := (sb.2 _ (Nat.ne_of_gt hzl)).trans hT
    have new : ObjOk X.prog X.w (upd H s.heap.objs.size (.tup [x, y])) h'' s.heap.objs.size (.tup [x, y]) :=
      ⟨by show 2 ≤ sizeLine; decide, [u, u2], .cons ru (.cons ru2 .nil), ⟨_, hT2, rfl, _, rfl⟩⟩
    have I1 : Inv X pins σ (upd H s.heap.objs.size (.tup [x, y])) { s with heap := h'' } :=
      I.turnedNew (t' := s.toks) (ch := [z, TI, TO, i1, i2]) (fun c o hb q => (sb.2 c (fun q' => hb (by simp [q']))).trans (hk c o (fun q' => hb (by simp [q'])) (fun q' => hb (by simp [q'])) (fun q' => hb (by simp [q'])) (fun q' => hb (by simp [q'])) q)) hf (Nat.le_refl _) new
    refine ⟨.ref s.heap.objs.size, _, I1, rfl, ⟨_, x, y, rfl, I.hok.fresh (Nat.le_refl _), rfl, fun l hl => by rw [I.tuple_inj hl hqx]; exact hx, fun l hl => by rw [I.tuple_inj hl hqy]; exact hy⟩, ⟨z'', ?_, ⟨u, u2, ?_⟩, ?_, ?_⟩, fun c hcm => ?_⟩
    · exact (sb.2 _ D.TIz).trans (hk _ _ D.TIz D.TITO D.TIi1 D.TIi2 hTI)
    · exact (sb.2 _ D.TOz).trans TO'
    · exact h1'.at fun o q => (sb.2 _ D.i1z).trans q
    · exact h2'.at fun o q => (sb.2 _ D.i2z).trans q
    · have hlt : c < s.heap.objs.size := by
        have e' : c = z ∨ c = TI ∨ c = TO ∨ c = i1 ∨ c = i2 := by simpa using hcm
        rcases e' with q | q | q | q | q
        · rw [q]; exact hzl
        · rw [q]; exact Heap.lt_size hTI
        · rw [q]; exact Heap.lt_size hTO
        · rw [q]; obtain ⟨_, e1, _⟩ := h1; exact Heap.lt_size e1
        · rw [q]; obtain ⟨_, e2, _⟩ := h2; exact Heap.lt_size e2
      rw [upd_ne (Nat.ne_of_lt hlt)]
      exact (hf c hcm).1
  done := by
    intro X hP hw hK hc i pins s σ H E I hf st hg
    subst hP hw hK
    obtain ⟨hz, hTI, ⟨x0, y0, hTO⟩, h1, h2⟩ := st
    obtain ⟨xs, ys, hqx, hqy, hend⟩ := hg
    obtain ⟨its, rv, pp, _⟩ := I.tuple hqx
    obtain ⟨its2, rv2, p2, _⟩ := I.tuple hqy
    have l1 := rv.length
    have l2 := rv2.length
    have he : its.toArray[i]? = none ∨ its2.toArray[i]? = none := by
      rcases hend with q | q
      · exact .inl (by simp; omega)
      · exact .inr (by simp; omega)
    exact HotK.pyNext_zipT_end_hot (hc.is I) nz nTO n1 n2 D hz hTI hTO h1 h2 pp p2 he fun h' hk => ⟨rfl, I.turnedL (t' := s.toks) (ch := [z, TI, TO, i1, i2]) (fun c o hb q =>
      hk c o (fun q' => hb (by simp [q'])) (fun q' => hb (by simp [q'])) (fun q' => hb (by simp [q'])) (fun q' => hb (by simp [q'])) q) hf⟩
  self := fun A i s Q E st h => wpAny_pyIter_zip st.1 h
def iZipTT (K : PySem.W.Frag) (ta : TA) : TI := fun σ H R => ta σ H fun vs H1 => ∃ a b xs ys, vs = [.ref a, .ref b] ∧ SqT K H1 a xs ∧ SqT K H1 b ys ∧ R (ItzT K a b) H1
theorem pi_zipI {X : Cx} {pp : Addr × Obj} (hc : HotI X pp) {e e2 : Expr} {ta : TA} {p pos tpos : Pos} {elts : List Expr} {kk : Nat} (hg : Gl X "zip") (hm : X.mg "zip" = none) (ha : PA X [e, e2] ta)
    (hs : starEach [e, e2] X.env = (false, eval e X.env) :: starEach [e2] X.env := by rfl) (hpl : (backTo pos (starEach [e2] X.env)).any (·.1) = false := by rfl) :
    PII X pp (.Tuple elts kk tpos) (.Call (.Name "zip" p) [e, e2] [] pos) (iZipA X.K ta) := by
  refine ⟨fun pins s σ H R I h => ?_⟩
  refine Call_ (ld_blt I hg hm PyProof.Rows.boot_zip (PyProof.Rows.callWith_type1 (thn (ha.run pos pins s σ H _ I h) fun us s1 ⟨vs, H1, I1, r1, q1⟩ => ?_) hs hpl))
  obtain ⟨a, b, xs, ys, ex, q1⟩ := q1
  subst ex
  cases r1 with
  | cons r rr =>
    cases rr with
    | cons r' rr =>
      cases rr
      cases r
      cases r'
      have fresh5 : ∀ c, c ∈ [s1.heap.objs.size + 4, s1.heap.objs.size + 2, s1.heap.objs.size + 3, s1.heap.objs.size, s1.heap.objs.size + 1] → FpOk X pins H1 c := fun c hcm => by
        have e' : c = s1.heap.objs.size + 4 ∨ c = s1.heap.objs.size + 2 ∨ c = s1.heap.objs.size + 3 ∨ c = s1.heap.objs.size ∨ c = s1.heap.objs.size + 1 := by simpa using hcm
        have hle : s1.heap.objs.size ≤ c := by
          rcases e' with z | z | z | z | z
          · rw [z]; exact Nat.le_add_right _ _
          · rw [z]; exact Nat.le_add_right _ _
          · rw [z]; exact Nat.le_add_right _ _
          · rw [z]; exact Nat.le_refl _
          · rw [z]; exact Nat.le_add_right _ _
        exact I1.fpOk hle (I1.hok.fresh hle)
      have lt5 : pp.1 < s1.heap.objs.size := Heap.lt_size (hc.at' _ _ _ _ I1).1
      have ne5 : ∀ c, c ∈ [s1.heap.objs.size + 4, s1.heap.objs.size + 2, s1.heap.objs.size + 3, s1.heap.objs.size, s1.heap.objs.size + 1] → c ≠ pp.1 := fun c hcm => by
        have e' : c = s1.heap.objs.size + 4 ∨ c = s1.heap.objs.size + 2 ∨ c = s1.heap.objs.size + 3 ∨ c = s1.heap.objs.size ∨ c = s1.heap.objs.size + 1 := by simpa using hcm
        have hle : s1.heap.objs.size ≤ c := by
          rcases e' with z | z | z | z | z
          · rw [z]; exact Nat.le_add_right _ _
          · rw [z]; exact Nat.le_add_right _ _
          · rw [z]; exact Nat.le_add_right _ _
          · rw [z]; exact Nat.le_refl _
          · rw [z]; exact Nat.le_add_right _ _
        exact Nat.ne_of_gt (Nat.lt_of_lt_of_le lt5 hle)
      rcases q1 with ⟨hqx, hqy, q⟩ | ⟨hqx, hqy, q⟩
      · obtain ⟨its, rv, p1, _⟩ := I1.list hqx
        obtain ⟨its2, rv2, p2, _⟩ := I1.list hqy
        refine call_zip_2 p1.isList p2.isList fun h' hz hTI hTO h1 h2 hsz hk => wpAny_pyIter_zip hz ?_
        have I2 : Inv X pins σ H1 { s1 with heap := h' } := I1.kept (t' := s1.toks) hk
        exact ⟨s1.heap.objs.size + 4, [s1.heap.objs.size + 4, s1.heap.objs.size + 2, s1.heap.objs.size + 3, s1.heap.objs.size, s1.heap.objs.size + 1], _, _, H1, rfl, I2, turn_zipLI (PySem.W.ktu_apart s1.heap.objs.size a b p1.lt p2.lt) (Ne.symm (ne5 _ (by simp))) (Ne.symm (ne5 _ (by simp))) (Ne.symm (ne5 _ (by simp))) (Ne.symm (ne5 _ (by simp))), ⟨hz, hTI, ⟨_, _, hTO⟩, h1, h2⟩, fresh5, ne5, q⟩
      · obtain ⟨its, rv, p1, _⟩ := I1.tuple hqx
        obtain ⟨its2, rv2, p2, _⟩ := I1.tuple hqy
        obtain ⟨o1, ho1, _⟩ := id p1
        obtain ⟨o2, ho2, _⟩ := id p2
        refine call_zipT (show s1.heap.IsTuple a its.toArray from p1) (show s1.heap.IsTuple b its2.toArray from p2) fun h' hz hTI hTO h1 h2 hsz hk => wpAny_pyIter_zip hz ?_
        have I2 : Inv X pins σ H1 { s1 with heap := h' } := I1.kept (t' := s1.toks) hk
        exact ⟨s1.heap.objs.size + 4, [s1.heap.objs.size + 4, s1.heap.objs.size + 2, s1.heap.objs.size + 3, s1.heap.objs.size, s1.heap.objs.size + 1], _, _, H1, rfl, I2, turn_zipTI (PySem.W.ktu_apart s1.heap.objs.size a b (Heap.lt_size ho1) (Heap.lt_size ho2)) (Ne.symm (ne5 _ (by simp))) (Ne.symm (ne5 _ (by simp))) (Ne.symm (ne5 _ (by simp))) (Ne.symm (ne5 _ (by simp))), ⟨hz, hTI, ⟨_, _, hTO⟩, h1, h2⟩, fresh5, ne5, q⟩
end RZ

set_option Elab.async false
set_option linter.all false
set_option maxRecDepth 100000
set_option maxHeartbeats 4000000
namespace L2H
open PySem PySem.Spec PyProof.Rows L2 HotX
theorem fn_ofI {CX : CXT} {P : Program} {w : World} {K : PySem.W.Frag} {mg : Str → Option Value} {base : Heap} {k : Nat} {f : Addr} {name qual : Str} {params : Arguments} {body : List Stmt} {scope : Scope} {dV kV doc pm cdv ct oc : Value} {an od : Option Addr}
    {osl : Array (Option Value)} {N ps : List Str} {sp : Sp} (lk : K.lookup f = some ⟨oc, od, .func (PySem.W.fnOf name qual params body scope dV kV doc pm an cdv ct), osl⟩) (hcd : PySem.W.codeIn K cdv qual = true) (S : FnScope N ps scope)
    (len : ∀ vs H Q E, sp vs H Q E → vs.length = ps.length)
    (hbody : ∀ (A : Around) (outer : List Env) (s : Shared) (H : Hp) (vs : List V) (Q : VK) (E : XK) (p : Addr × Obj), Hot1 A p → PinOk outer H s p → RoomH k (A.deeper (envOfC qual scope s.heap.objs.size f cdv)) → sp vs H Q E →
      ∃ t, PSs (cxH CX P w K mg base N qual scope f cdv A outer s H E p) body t ∧ t { nx := fun _ H' => Q .non H', rt := Q } (L2.start N vs) H) :
    FnH P w K mg base CX (k + 1) f (PySem.W.fnOf name qual params body scope dV kV doc pm an cdv ct) ps sp := by
  refine ⟨len, fun A outer s H args us vs Q E p hr hot hpin e0 hb r hsp => ?_⟩
  have hl := len _ _ _ _ hsp
  have KX : K.In s.heap := e0.mod.kin.keeps fun b o e => (e0.bs b o e).1
  have lim : s.heap.NoLimit := e0.mod.nolimit.keeps fun b o e => (e0.bs b o e).1
  have hkind : ∀ y ∈ ps.zip us, scope.names.lookup y.1 = some .local ∨ (scope.names.lookup y.1 = some .cell ∧ ((cellsFrom (s.heap.objs.size + 1) scope.names []).lookup y.1).isSome = true) := fun ⟨n, v⟩ hy => by
    rcases S.par n (List.of_mem_zip hy).1 with q | q
    · exact .inl q
    · exact .inr ⟨q, PySem.W.cellsFrom_some _ _ _ (.inl q)⟩
  refine codeAny_call_function hr.depth (KX _ _ lk) rfl S.co S.gen rfl (PySem.W.codeRec_of KX hcd) (hb _ _ _ _ ?_)
  refine wpAny_newFunctionEnv_cells S.kind hkind fun env he s1 x => ?_
  subst he
  refine ⟨lim.keeps x.toInCall.keep, codeAny_func ?_⟩
  obtain ⟨t, ht, hq⟩ := hbody A outer s H vs Q E p hot hpin (hr.deeper _) hsp
  have I : Inv (cxH CX P w K mg base N qual scope f cdv A outer s H E p) [] (L2.start N vs) H s1 := inv_startH S hpin e0 hl r x
  refine wpAny_mono (ht.run [] s1 (L2.start N vs) H _ I hq) (fun fl s' hs => ?_) fun e s' hs => hs
  have fin : ∀ {σ' : St} {H' : Hp} {v : V} {u : Value}, Inv (cxH CX P w K mg base N qual scope f cdv A outer s H E p) [] σ' H' s' → RelV v u → Q v H' → CE outer P w H s Q u s' :=
    fun {σ' H' v u} J rv q => ⟨v, H', J.os, J.bare, J.base, J.hok, rv, q⟩
  cases fl with
  | ret u =>
    obtain ⟨v, σ', H', J, rv, q⟩ := hs
    exact fin J rv q
  | next =>
    obtain ⟨σ', H', J, q⟩ := hs
    exact fin (v := V.non) (u := Value.none) J rfl q
  | brk =>
    obtain ⟨_, _, _, q⟩ := hs
    exact False.elim q
  | cont =>
    obtain ⟨_, _, _, q⟩ := hs
    exact False.elim q


end L2H
namespace L2
open PySem PySem.Spec PyProof.Rows PySem.KX
theorem okH {P : Program} {w : World} {K : PySem.W.Frag} {mg : Str → Option Value} {base : Heap} {x qual : Str} {st : Stmt} {f : Addr} {fd : FuncData} {N ps : List Str} {k : Nat} {sp : Sp} (F : Fun K x qual st f fd) (S : FnScope N ps (defScope st)) (len : ∀ vs H Q E, sp vs H Q E → vs.length = ps.length)
    (hbody : ∀ (cdv : Value) (A : Around) (outer : List Env) (s : Shared) (H : Hp) (vs : List V) (Q : VK) (E : XK) (p : Addr × Obj), HotI (L2H.cxH CX0 P w K mg base N qual (defScope st) f cdv A outer s H E p) p → L2H.RoomH k (A.deeper (envOfC qual (defScope st) s.heap.objs.size f cdv)) → sp vs H Q E →
      ∃ t, PSs (L2H.cxH CX0 P w K mg base N qual (defScope st) f cdv A outer s H E p) (defBody st) t ∧ t { nx := fun _ H' => Q .non H', rt := Q } (start N vs) H) : L2H.FnH P w K mg base CX0 (k + 1) f fd ps sp := by
  obtain ⟨oc, od, kV, doc, pm, an, cdv, ct, osl, rfl, lk, hcd⟩ := F.ex
  refine L2H.fn_ofI lk hcd S len fun A outer s H vs Q E p hot hpin hr hsp => ?_
  refine hbody cdv A outer s H vs Q E p (hotI_pin ?_ (List.mem_singleton.mpr rfl) (fun hm => ?_) hpin.nocell) hr hsp
  · exact ⟨hot.1, hot.2⟩
  · obtain ⟨e, he, q⟩ := List.mem_filterMap.mp hm
    rcases List.mem_cons.mp he with rfl | he
    · have q' : some s.heap.objs.size = some p.1 := q
      have := Heap.lt_size hpin.get
      rw [← Option.some.inj q'] at this
      exact absurd this (Nat.lt_irrefl _)
    · exact hpin.nofs (List.mem_filterMap.mpr ⟨e, he, q⟩)
end L2

set_option Elab.async false
set_option linter.all false
set_option maxRecDepth 100000
set_option maxHeartbeats 4000000
/-! the package's own questions where an exception is handled. -/
namespace K02
open PySem L2 PySem.KX StX
section
variable {P : Program} {w : World} {K : PySem.W.Frag} {mg : Str → Option Value} {base : Heap}
theorem hot_is_integer {f : Addr} {fd : FuncData} (F : Fun K "is_integer" "is_integer" sis_integer f fd) (T : TxtA mg) : L2H.FnH P w K mg base CX0 1 f fd ["value"] (spT K isIntD) := by
  have nd := scis_integer.nd
  refine okH F scis_integer (fun vs H Q E h => ?_) (fun cdv A outer s H vs Q E pp hot hr h => ?_)
  · obtain ⟨_, _, rfl, _⟩ := h
    rfl
  · obtain ⟨v, d, rfl, hd, k⟩ := h
    refine ⟨_, (pss_one (ps_ret (pe_and (pe_callB call_isiA (by rfl) T.isinstance (by decide +kernel) (pa_cons (av 0) (pa_cons (pe_bltn (v := .ty "int") (u := .type "int") rfl T.int (by decide +kernel) rfl) pa_nil))) (pe_one (pe_not (pe_callB call_isiA (by rfl) T.isinstance (by decide +kernel) (pa_cons (av 0) (pa_cons (pe_bltn (v := .ty "bool") (u := .type "bool") rfl T.bool (by decide +kernel) rfl) pa_nil)))))))), ?_⟩
    refine ⟨_, _, _, _, _, rfl, .ty _, hd.dq.ty, kit_ty (kit_int d), _, rfl, ?_⟩
    cases d with
    | int i => exact ⟨_, _, _, _, _, rfl, .ty _, hd.dq.ty, kit_ty (kit_bool (.int i)), _, rfl, k⟩
    | bool b => exact ⟨_, _, _, _, _, rfl, .ty _, hd.dq.ty, kit_ty (kit_bool (.bool b)), _, rfl, k⟩
    | none => exact k
    | str x => exact k
    | list ds => exact k
    | tuple ds => exact k
    | dict kv => exact k
theorem hot_is_integer_within {f : Addr} {fd : FuncData} (F : Fun K "is_integer_within" "is_integer_within" sis_integer_within f fd) (Ois_integer : OwnI P w K mg base "is_integer" 1 ["value"] (spT K isIntD)) : L2H.FnH P w K mg base CX0 2 f fd ["value", "least", "most"] (spWithin K) := by
  have nd := scis_integer_within.nd
  refine okH F scis_integer_within (fun vs H Q E h => ?_) (fun cdv A outer s H vs Q E pp hot hr h => ?_)
  · obtain ⟨_, _, _, _, rfl, _⟩ := h
    rfl
  · obtain ⟨v, d, lo, hi, rfl, hd, k⟩ := h
    refine ⟨_, (pss_one (ps_ret (pe_and (pe_ownI Ois_integer hr hot (pa_cons (av 0) pa_nil) (by decide)) (pe_one (pe_chain op_leA op_leA (av 1) (av 0) (av 2)))))), ?_⟩
    refine ⟨v, d, rfl, hd, _, rfl, ?_⟩
    cases hd.dq with
    | int i =>
      refine ⟨_, rfl, ?_⟩
      have e : intIn lo hi (.int i) = (decide (lo ≤ i) && decide (i ≤ hi)) := rfl
      rw [e] at k
      refine ite2 (fun c => ?_) (fun c => ?_)
      · have c' : decide (lo ≤ i) = true := c
        rw [c'] at k
        exact k
      · have c' : decide (lo ≤ i) = false := Bool.eq_false_iff.mpr c
        rw [c'] at k
        exact k
    | non => exact k
    | bl b => exact k
    | str x => exact k
    | lst h1 h2 => exact k
    | tup h1 h2 => exact k
    | emp h1 => exact k
theorem hot_is_name {f : Addr} {fd : FuncData} (F : Fun K "is_name" "is_name" sis_name f fd) (T : TxtA mg) : L2H.FnH P w K mg base CX0 1 f fd ["value"] (spN K isNameD) := by
  have nd := scis_name.nd
  refine okH F scis_name (fun vs H Q E h => ?_) (fun cdv A outer s H vs Q E pp hot hr h => ?_)
  · obtain ⟨_, _, rfl, _⟩ := h
    rfl
  · obtain ⟨v, d, rfl, hd, k⟩ := h
    refine ⟨_, (pss_cons (ps_if (PW.pt (pw_or (pt_not (pt_valA (pe_callB call_isiA (by rfl) T.isinstance (by decide +kernel) (pa_cons (av 0) (pa_cons (pe_bltn (v := .ty "str") (u := .type "str") rfl T.str (by decide +kernel) rfl) pa_nil))))) (pw_or1 (pt_not (pt_chain op_leA op_leA pe_int (pe_callB call_lenA (by rfl) T.len PySem.boot_len (pa_cons (av 0) pa_nil)) (pe_gint T.g_MAX_LETTERS)))))) (pss_one (ps_ret pe_bl)) pss_nil)
      (pss_one (ps_ret (pe_callB (cr_allI hot) (by rfl) T.all (by decide +kernel) (pa_cons (pe_lcI (own := [("letter", 1)]) hot nd (pi_strI hot (av 0)) (blkOk_by (N := ["value", "letter"]) (sc := defScope sis_name) (by decide +kernel)) (fun _ _ _ _ _ hb => (pg_name (i := 1) nd rfl (Or.inl rfl))) (fun _ _ _ _ _ hb => pts_nil) (fun _ _ _ _ _ hb => PE.up (pe_chain op_le_str op_le_str pe_str (av 1) pe_str))) pa_nil))))), ?_⟩
    refine ⟨_, _, _, _, _, rfl, .ty _, hd.dq.ty, kit_ty (kit_str d), ?_⟩
    have no : isStrB d = false → isNameD d = false := fun e => by
      cases d <;> first | rfl | cases e
    cases hb : isStrB d with
    | false =>
      rw [no hb] at k
      refine (iteT (k _ (Same.refl _)) : if true = true then _ else _)
    | true =>
      refine iteF ?_
      cases hd.dq with
      | str x =>
        have hs : x.length ≤ 100000 := of_decide_eq_true hd.sm
        refine ⟨small_size (by omega), _, rfl, ?_⟩
        have e : isNameD (.str x) = ((decide (1 ≤ x.length) && decide (x.length ≤ 8)) && x.cps.toList.all lowC) := rfl
        rw [e] at k
        refine ite2 (fun c1 => ?_) (fun c1 => ?_)
        · have d1 : decide (1 ≤ x.length) = true := decide_eq_true (by have := of_decide_eq_true c1; omega)
          rw [d1] at k
          refine ⟨_, rfl, ?_⟩
          cases d2 : decide (x.length ≤ 8) with
          | false =>
            rw [d2] at k
            have c2 : decide ((x.length : Int) ≤ 8) = false := decide_eq_false (by have := of_decide_eq_false d2; omega)
            show (if (!decide ((x.length : Int) ≤ 8)) = true then _ else _)
            rw [c2]
            exact iteT (k _ (Same.refl _))
          | true =>
            rw [d2] at k
            have c2 : decide ((x.length : Int) ≤ 8) = true := decide_eq_true (by have := of_decide_eq_true d2; omega)
            show (if (!decide ((x.length : Int) ≤ 8)) = true then _ else _)
            rw [c2]
            refine iteF ⟨x, rfl, fun D hD => ?_⟩
            refine lc_itS walk_str (fun j u _ => ∃ c, x.cps[j]? = some c ∧ u = .bl (lowC c)) (fun _ _ _ _ _ h => h) hD (by have : x.cps.size = x.length := rfl; omega) (fun _ _ => True.intro) (fun j y H' H2 hj s5 hD5 ⟨e2, c, hc, ey⟩ => ?_) gName_mono (fun H' acc s6 hl la hacc => ?_)
            · subst e2
              subst ey
              refine ⟨rfl, _, _, rfl, rfl, _, rfl, ?_⟩
              have e3 : lowC c = (decide (97 ≤ c) && decide (c ≤ 122)) := rfl
              refine ite2 (fun c3 => ?_) (fun c3 => ?_)
              · have c3' : (!decide ((⟨#[c]⟩ : Str).cps.toList < ("a" : Str).cps.toList)) = true := c3
                rw [low_a] at c3'
                refine ⟨_, _, rfl, rfl, Same.refl _, c, hc, ?_⟩
                rw [e3, c3', low_z]
                rfl
              · have c3' : (!decide ((⟨#[c]⟩ : Str).cps.toList < ("a" : Str).cps.toList)) = false := Bool.eq_false_iff.mpr c3
                rw [low_a] at c3'
                refine ⟨Same.refl _, c, hc, ?_⟩
                rw [e3, c3']
                rfl
            · have ea : acc = (x.cps.toList.map lowC).map V.bl := acc_mapN (by simpa using la) fun j u hu => by
                obtain ⟨c, h1, h2⟩ := hacc j u hu
                exact ⟨c, by simpa using h1, h2⟩
              refine ⟨D, x.cps.toList.map lowC, rfl, SqL.of (by rw [← ea]; exact hl), ?_⟩
              rw [all_mapN]
              exact k _ s6
        · have d1 : decide (1 ≤ x.length) = false := decide_eq_false fun z => c1 (decide_eq_true (by omega))
          rw [d1] at k
          exact ⟨_, rfl, iteT (k _ (Same.refl _))⟩
      | _ => cases hb
theorem hot_ascends {f : Addr} {fd : FuncData} (F : Fun K "ascends" "ascends" sascends f fd) (T : TxtA mg) : L2H.FnH P w K mg base CX0 1 f fd ["values"] (spAsc K) := by
  have nd := scascends.nd
  refine okH F scascends (fun vs H Q E h => ?_) (fun cdv A outer s H vs Q E pp hot hr h => ?_)
  · obtain ⟨_, _, _, rfl, _⟩ := h
    rfl
  · obtain ⟨a, xs, ds, rfl, hq, hd, hc, hn, k⟩ := h
    refine ⟨_, (pss_one (ps_ret (pe_callB (cr_allI hot) (by rfl) T.all (by decide +kernel) (pa_cons (pe_lcI (own := [("one", 1), ("other", 2)]) hot nd (RZ.pi_zipI hot (by rfl) T.zip (pa_cons (av 0) (pa_cons (pe_slice (sl_listS.or sl_tupS) (av 0) (po_some pe_int) po_none) pa_nil))) (blkOk_by (N := ["values", "one", "other"]) (sc := defScope sascends) (by decide +kernel)) (fun _ _ _ _ _ hb => (show PG _ _ (gTup K 2 (gCons (gName 1) (gCons (gName 2) gNil))) from (pg_tupI hb (pgs_cons (pg_name (i := 1) nd rfl (Or.inl rfl)) (pgs_cons (pg_name (i := 2) nd rfl (Or.inl rfl)) pgs_nil))))) (fun _ _ _ _ _ hb => pts_nil) (fun _ _ _ _ _ hb => PE.up (pe_cmpA op_ltS (av 1) (av 2)))) pa_nil)))), ?_⟩
    have hlen := hd.length
    have fin : ∀ (H1 : Hp) (s1 : Same H H1) (D : Addr) (H' : Hp) (acc : List V), Same H1 H' → H' D = some (.lst acc) → acc.length = min xs.length xs.tail.length → (∀ (j : Nat) (v : V), acc[j]? = some v → ∃ d e, ds[j]? = some d ∧ ds.tail[j]? = some e ∧ v = .bl (ltD d e)) →
        rAll K [.ref D] H' Q := fun H1 s1 D H' acc s2 hl la hacc => by
      have ea := asc_range ds (acc := acc) (by rw [la, List.length_tail, List.length_tail, hlen]) hacc
      refine ⟨D, (ds.zip ds.tail).map fun p => ltD p.1 p.2, rfl, SqL.of (by rw [← ea]; exact hl), ?_⟩
      rw [all_mapN]
      exact k _ (s1.trans s2)
    have stp : ∀ (H1 H' H2 : Hp) (D : Addr) (j : Nat) (y : V) (σ0 : St), Same H H1 → Same H1 H' → YPair (fun i => xs[i]?) (fun i => xs.tail[i]?) j H' y H2 → σ0.length = 3 → (σ0.set 1 none).set 2 none = σ0 → H' D ≠ none →
        gTup K 2 (gCons (gName 1) (gCons (gName 2) gNil)) y σ0 H2 fun σ3 H3 => (σ3.set 2 none).set 1 none = (σ0.set 2 none).set 1 none ∧ tOp rLtS (aVar 1) (aVar 2) σ3 H3 fun u H4 => Same H' H4 ∧ ∃ d e, ds[j]? = some d ∧ ds.tail[j]? = some e ∧ u = .bl (ltD d e) := by
      rintro H1 H' H2 D j y σ0 s1 s2 ⟨T, x1, y1, rfl, hT, rfl, hx, hy⟩ hσ _ _
      refine tup2 ?_
      obtain ⟨d, hd1, hd2⟩ := hd.get hx
      have hy' : xs[j + 1]? = some y1 := by rw [← List.getElem?_tail]; exact hy
      obtain ⟨e, he1, he2⟩ := hd.get hy'
      have s3 : Same H (upd H' T (.tup [x1, y1])) := (s1.trans s2).new hT
      match σ0, hσ with
      | [o0, o1, o2], _ =>
        refine ⟨rfl, ?_⟩
        refine lt_of (K := K) (d := d) (e := e) (Q := fun u H4 => Same H' H4 ∧ ∃ d e, ds[j]? = some d ∧ ds.tail[j]? = some e ∧ u = .bl (ltD d e)) ?_ (Dq.same s3 _ _ hd2) (Dq.same s3 _ _ he2) ⟨(Same.refl _).new hT, d, e, hd1, by rw [List.getElem?_tail]; exact he1, rfl⟩
        rcases hc with hc | hc
        · exact .inl ⟨hc _ _ hd1, hc _ _ he1⟩
        · exact .inr ⟨hc _ _ hd1, hc _ _ he1⟩
    have hn1 : min xs.length xs.tail.length ≤ 1000000 := by omega
    refine ⟨1, rfl, ?_⟩
    rcases hq with hq | hq
    · refine .inl ⟨a, xs, rfl, hq, fun p H1 s1 n1 l1 => ?_⟩
      rw [cut_tail] at l1
      refine ⟨a, p, xs, xs.tail, rfl, .inl ⟨s1.sqL hq, SqL.of l1, fun D hD => ?_⟩⟩
      refine lc_itS (walk_zip rfl) (fun j u _ => ∃ d e, ds[j]? = some d ∧ ds.tail[j]? = some e ∧ u = .bl (ltD d e)) (fun _ _ _ _ _ h => h) hD hn1 (fun H' s2 => ⟨s2.sqL (s1.sqL hq), s2.sqL (SqL.of l1)⟩) (fun j y H' H2 hj s2 hD2 hy => ?_) gTup2_mono (fun H' acc s2 hl la hacc => fin H1 s1 D H' acc s2 hl la hacc)
      exact stp H1 H' H2 D j y _ s1 s2 hy rfl rfl hD2
    · refine .inr ⟨a, xs, rfl, hq, fun p H1 s1 l1 => ?_⟩
      rw [cut_tail] at l1
      refine ⟨a, p, xs, xs.tail, rfl, .inr ⟨s1.sqT hq, l1, fun D hD => ?_⟩⟩
      refine lc_itS (walk_zipT rfl) (fun j u _ => ∃ d e, ds[j]? = some d ∧ ds.tail[j]? = some e ∧ u = .bl (ltD d e)) (fun _ _ _ _ _ h => h) hD hn1 (fun H' s2 => ⟨s2.sqT (s1.sqT hq), s2.sqT l1⟩) (fun j y H' H2 hj s2 hD2 hy => ?_) gTup2_mono (fun H' acc s2 hl la hacc => fin H1 s1 D H' acc s2 hl la hacc)
      exact stp H1 H' H2 D j y _ s1 s2 hy rfl rfl hD2
theorem hot_are_places {f : Addr} {fd : FuncData} (F : Fun K "are_places" "are_places" sare_places f fd) (T : TxtA mg) (Ois_integer_within : OwnI P w K mg base "is_integer_within" 2 ["value", "least", "most"] (spWithin K)) (Oascends : OwnI P w K mg base "ascends" 1 ["values"] (spAsc K)) :
    L2H.FnH P w K mg base CX0 3 f fd ["places", "value"] (spPlaces K placesD) := by
  have nd := scare_places.nd
  refine okH F scare_places (fun vs H Q E h => ?_) (fun cdv A outer s H vs Q E pp hot hr h => ?_)
  · obtain ⟨_, _, _, rfl, _⟩ := h
    rfl
  · obtain ⟨n, v, d, rfl, hd, k⟩ := h
    refine ⟨_, (pss_cons (ps_if (pt_not (pt_valA (pe_callB call_isiA (by rfl) T.isinstance (by decide +kernel) (pa_cons (av 1) (pa_cons (pe_bltn (v := .ty "tuple") (u := .type "tuple") rfl T.tuple (by decide +kernel) rfl) pa_nil))))) (pss_one (ps_ret pe_bl)) pss_nil)
      (pss_cons (ps_if (pt_not (pt_valA (pe_callB (cr_allI hot) (by rfl) T.all (by decide +kernel) (pa_cons (pe_lcI (own := [("place", 2)]) hot nd (pi_tupI hot (av 1)) (blkOk_by (N := ["places", "value", "place"]) (sc := defScope sare_places) (by decide +kernel)) (fun _ _ _ _ _ hb => (pg_name (i := 2) nd rfl (Or.inl rfl))) (fun _ _ _ _ _ hb => pts_nil) (fun _ _ _ _ _ hb => PE.up (pe_ownI Ois_integer_within hr hb (pa_cons (av 2) (pa_cons pe_int (pa_cons (pe_op op_subA (av 0) pe_int) pa_nil))) (by decide)))) pa_nil)))) (pss_one (ps_ret pe_bl)) pss_nil)
      (pss_one (ps_ret (pe_ownI Oascends hr hot (pa_cons (av 1) pa_nil) (by decide)))))), ?_⟩
    refine ⟨_, _, _, _, _, rfl, .ty _, hd.dq.ty, kit_ty (kit_tuple d), ?_⟩
    have no : isTupB d = false → placesD n d = false := fun e => by
      cases d <;> first | rfl | cases e
    cases hb : isTupB d with
    | false =>
      rw [no hb] at k
      refine (iteT (k _ (Same.refl _)) : if true = true then _ else _)
    | true =>
      refine iteF ?_
      obtain ⟨hdq, hsm⟩ := hd
      cases hdq with
      | @tup a xs ds hq ha =>
        have hlen := ha.length
        obtain ⟨hn, hs2⟩ := smQ_tup hsm
        refine ⟨a, rfl, ⟨_, hq⟩, fun D hD => ?_⟩
        refine lc_itS (walk_tup (xs := xs)) (fun j u _ => ∃ d, ds[j]? = some d ∧ u = .bl (intIn 0 (n - 1) d)) (fun _ _ _ _ _ h => h) hD (by omega) (fun H' s5 => s5.sqT hq) (fun j y H' H2 hj s5 hD5 ⟨e2, hy⟩ => ?_) gName_mono (fun H' acc s6 hl la hacc => ?_)
        · subst e2
          obtain ⟨d, h1, h2⟩ := ha.get hy
          exact ⟨rfl, y, d, 0, n - 1, rfl, ⟨Dq.same s5 _ _ h2, smQ_mem hs2 h1⟩, Same.refl _, d, h1, rfl⟩
        · have ea : acc = (ds.map (intIn 0 (n - 1))).map V.bl := acc_mapN (by rw [la, hlen]) hacc
          refine ⟨D, ds.map (intIn 0 (n - 1)), rfl, SqL.of (by rw [← ea]; exact hl), ?_⟩
          rw [all_mapN]
          have e3 : placesD n (.tuple ds) = (ds.all (intIn 0 (n - 1)) && ascD ds) := rfl
          rw [e3] at k
          cases c : ds.all (intIn 0 (n - 1)) with
          | false =>
            rw [c] at k
            refine (iteT (k _ s6) : if true = true then _ else _)
          | true =>
            rw [c] at k
            refine iteF ⟨a, xs, ds, rfl, .inr (s6.sqT hq), DqAll.same s6 _ _ ha, .inl fun i d hi => ?_, hn, fun H2 s7 => k _ (s6.trans s7)⟩
            have := List.all_eq_true.mp c d (List.mem_of_getElem? hi)
            cases d <;> first | rfl | cases this
      | _ => cases hb
theorem hot_is_step {f : Addr} {fd : FuncData} (F : Fun K "_is_step" "_is_step" s_is_step f fd) (T : TxtA mg) (Ois_name : OwnI P w K mg base "is_name" 1 ["value"] (spN K isNameD)) (Oare_places : OwnI P w K mg base "are_places" 3 ["places", "value"] (spPlaces K placesD)) :
    L2H.FnH P w K mg base CX0 4 f fd ["places", "value"] (spPlaces K stepD) := by
  have nd := sc_is_step.nd
  refine okH F sc_is_step (fun vs H Q E h => ?_) (fun cdv A outer s H vs Q E pp hot hr h => ?_)
  · obtain ⟨_, _, _, rfl, _⟩ := h
    rfl
  · obtain ⟨n, v, d, rfl, hd, k⟩ := h
    refine ⟨_, (pss_cons (ps_if (PW.pt (pw_or (pt_not (pt_valA (pe_callB call_isiA (by rfl) T.isinstance (by decide +kernel) (pa_cons (av 1) (pa_cons (pe_bltn (v := .ty "tuple") (u := .type "tuple") rfl T.tuple (by decide +kernel) rfl) pa_nil))))) (pw_or1 (pt_cmpA (op_neA hr.units64) (pe_callB call_lenA (by rfl) T.len PySem.boot_len (pa_cons (av 1) pa_nil)) pe_int)))) (pss_one (ps_ret pe_bl)) pss_nil)
      (pss_cons (ps_asg (av 1) (pg_tupI hot (pgs_cons (pg_name (i := 2) nd rfl (Or.inl rfl)) (pgs_cons (pg_name (i := 3) nd rfl (Or.inl rfl)) (pgs_cons (pg_name (i := 4) nd rfl (Or.inl rfl)) pgs_nil)))))
      (pss_cons (ps_if (PW.pt (pw_or (pt_not (pt_valA (pe_ownI Ois_name hr hot (pa_cons (av 2) pa_nil) (by decide)))) (pw_or (pt_cmpA (op_eqNil hr.units64) (av 3) (pe_tupS pa_nil)) (pw_or1 (pt_cmpA (op_eqNil hr.units64) (av 4) (pe_tupS pa_nil)))))) (pss_one (ps_ret pe_bl)) pss_nil)
      (pss_one (ps_ret (pe_and (pe_ownI Oare_places hr hot (pa_cons (av 0) (pa_cons (av 3) pa_nil)) (by decide)) (pe_one (pe_ownI Oare_places hr hot (pa_cons (av 0) (pa_cons (av 4) pa_nil)) (by decide))))))))), ?_⟩
    refine ⟨_, _, _, _, _, rfl, .ty _, hd.dq.ty, kit_ty (kit_tuple d), ?_⟩
    have no : isTupB d = false → stepD n d = false := fun e => by
      cases d <;> first | rfl | cases e
    cases hb : isTupB d with
    | false =>
      rw [no hb] at k
      refine (iteT (iteT (k _ (Same.refl _))) : if true = true then _ else _)
    | true =>
      refine iteF ?_
      obtain ⟨hdq, hsm⟩ := hd
      cases hdq with
      | @tup a xs ds hq ha =>
        have hlen := ha.length
        refine .inr ⟨xs, hq, ?_⟩
        by_cases h3 : ds.length = 3
        · have c : (!decide ((xs.length : Int) = 3)) = false := by rw [decide_eq_true (by omega)]; rfl
          show (if (!decide ((xs.length : Int) = 3)) = true then _ else _)
          rw [c]
          refine iteF ?_
          obtain ⟨da, db, dc, rfl⟩ := len3 h3
          obtain ⟨x, y, z, rfl, hx, hy, hz⟩ := dq3 ha
          obtain ⟨m1, m2, m3⟩ := sm3 hsm
          refine ⟨a, _, rfl, hq, rfl, _, _, rfl, _, _, rfl, _, _, rfl, rfl, ?_⟩
          refine ⟨x, da, rfl, ⟨hx, m1⟩, fun H1 s1 => ?_⟩
          have e3 : stepD n (.tuple [da, db, dc]) = (isNameD da && (!isNilD db && (!isNilD dc && (placesD n db && placesD n dc)))) := rfl
          rw [e3] at k
          cases c1 : isNameD da with
          | false =>
            rw [c1] at k
            refine (iteT (iteT (k _ s1)) : if true = true then _ else _)
          | true =>
            rw [c1] at k
            refine iteF ⟨by simp, fun p H2 s2 n2 l2 => ⟨p, db, rfl, SqT.of l2, Dq.same (s1.trans s2) _ _ hy, ?_⟩⟩
            cases c2 : isNilD db with
            | true =>
              rw [c2] at k
              refine iteT (iteT (k _ (s1.trans s2)))
            | false =>
              rw [c2] at k
              refine iteF ⟨by simp, fun p3 H3 s3 n3 l3 => ⟨p3, dc, rfl, SqT.of l3, Dq.same ((s1.trans s2).trans s3) _ _ hz, ?_⟩⟩
              cases c3 : isNilD dc with
              | true =>
                rw [c3] at k
                refine iteT (k _ ((s1.trans s2).trans s3))
              | false =>
                rw [c3] at k
                have s4 := (s1.trans s2).trans s3
                refine iteF ⟨n, y, db, rfl, ⟨Dq.same s4 _ _ hy, m2⟩, fun H5 s5 => ⟨_, rfl, ?_⟩⟩
                cases c4 : placesD n db with
                | false =>
                  rw [c4] at k
                  exact iteF (k _ (s4.trans s5))
                | true =>
                  rw [c4] at k
                  exact iteT ⟨n, z, dc, rfl, ⟨Dq.same (s4.trans s5) _ _ hz, m3⟩, fun H6 s6 => k _ ((s4.trans s5).trans s6)⟩
        · have c : (!decide ((xs.length : Int) = 3)) = true := by rw [decide_eq_false (by omega)]; rfl
          show (if (!decide ((xs.length : Int) = 3)) = true then _ else _)
          rw [c]
          rw [step3 h3] at k
          exact iteT (k _ (Same.refl _))
      | _ => cases hb
theorem hot_is_net {f : Addr} {fd : FuncData} (F : Fun K "is_net" "is_net" sis_net f fd) (T : TxtA mg) (Ois_integer_within : OwnI P w K mg base "is_integer_within" 2 ["value", "least", "most"] (spWithin K)) (Oascends : OwnI P w K mg base "ascends" 1 ["values"] (spAsc K))
    (O_is_step : OwnI P w K mg base "_is_step" 4 ["places", "value"] (spPlaces K stepD)) : L2H.FnH P w K mg base CX0 5 f fd ["value"] (spN K netD) := by
  have nd := scis_net.nd
  refine okH F scis_net (fun vs H Q E h => ?_) (fun cdv A outer s H vs Q E pp hot hr h => ?_)
  · obtain ⟨_, _, rfl, _⟩ := h
    rfl
  · obtain ⟨v, d, rfl, hd, k⟩ := h
    refine ⟨_, (pss_cons (ps_if (PW.pt (pw_or (pt_not (pt_valA (pe_callB call_isiA (by rfl) T.isinstance (by decide +kernel) (pa_cons (av 0) (pa_cons (pe_bltn (v := .ty "tuple") (u := .type "tuple") rfl T.tuple (by decide +kernel) rfl) pa_nil))))) (pw_or1 (pt_cmpA (op_neA hr.units64) (pe_callB call_lenA (by rfl) T.len PySem.boot_len (pa_cons (av 0) pa_nil)) pe_int)))) (pss_one (ps_ret pe_bl)) pss_nil)
      (pss_cons (ps_asg (av 0) (pg_tupI hot (pgs_cons (pg_name (i := 1) nd rfl (Or.inr rfl)) (pgs_cons (pg_name (i := 2) nd rfl (Or.inl rfl)) pgs_nil))))
      (pss_cons (ps_if (pt_not (pt_valA (pe_ownI Ois_integer_within hr hot (pa_cons (av 1) (pa_cons pe_int (pa_cons (pe_gint T.g_MAX_PLACES) pa_nil))) (by decide)))) (pss_one (ps_ret pe_bl)) pss_nil)
      (pss_cons (ps_if (PW.pt (pw_or (pt_not (pt_valA (pe_callB call_isiA (by rfl) T.isinstance (by decide +kernel) (pa_cons (av 2) (pa_cons (pe_bltn (v := .ty "tuple") (u := .type "tuple") rfl T.tuple (by decide +kernel) rfl) pa_nil))))) (pw_or1 (pt_not (pt_chain op_leA op_leA pe_int (pe_callB call_lenA (by rfl) T.len PySem.boot_len (pa_cons (av 2) pa_nil)) (pe_gint T.g_MAX_STEPS)))))) (pss_one (ps_ret pe_bl)) pss_nil)
      (pss_cons (ps_if (pt_not (pt_valA (pe_callB (cr_allI hot) (by rfl) T.all (by decide +kernel) (pa_cons (pe_lcI (own := [("step", 3)]) hot nd (pi_tupI hot (av 2)) (blkOk_by (N := ["value", "places", "steps", "step"]) (sc := defScope sis_net) (by decide +kernel)) (fun _ _ _ _ _ hb => (pg_name (i := 3) nd rfl (Or.inl rfl))) (fun _ _ _ _ _ hb => pts_nil) (fun _ _ _ _ _ hb => PE.up (pe_ownI O_is_step hr hb (pa_cons (av 1) (pa_cons (av 3) pa_nil)) (by decide)))) pa_nil)))) (pss_one (ps_ret pe_bl)) pss_nil)
      (pss_one (ps_ret (pe_ownI Oascends hr hot (pa_cons (pe_lcI (own := [("step", 3)]) hot nd (pi_tupI hot (av 2)) (blkOk_by (N := ["value", "places", "steps", "step"]) (sc := defScope sis_net) (by decide +kernel)) (fun _ _ _ _ _ hb => (pg_name (i := 3) nd rfl (Or.inl rfl))) (fun _ _ _ _ _ hb => pts_nil) (fun _ _ _ _ _ hb => PE.up (show PE _ _ (tOp (rIxA K) (aVar 3) (tC (.int 0))) from (pe_ixA (av 3) pe_int)))) pa_nil) (by decide))))))))), ?_⟩
    refine ⟨_, _, _, _, _, rfl, .ty _, hd.dq.ty, kit_ty (kit_tuple d), ?_⟩
    have no : isTupB d = false → netD d = false := fun e => by
      cases d <;> first | rfl | cases e
    cases hb : isTupB d with
    | false =>
      rw [no hb] at k
      refine (iteT (iteT (k _ (Same.refl _))) : if true = true then _ else _)
    | true =>
      refine iteF ?_
      obtain ⟨hdq, hsm⟩ := hd
      cases hdq with
      | @tup a xs ds hq ha =>
        have hlen := ha.length
        refine .inr ⟨xs, hq, ?_⟩
        by_cases h2 : ds.length = 2
        · have c : (!decide ((xs.length : Int) = 2)) = false := by rw [decide_eq_true (by omega)]; rfl
          show (if (!decide ((xs.length : Int) = 2)) = true then _ else _)
          rw [c]
          refine iteF ?_
          obtain ⟨da, db, rfl⟩ := len2 h2
          obtain ⟨x, y, rfl, hx, hy⟩ := dq2 ha
          obtain ⟨m1, m2⟩ := sm2 hsm
          refine ⟨a, _, rfl, hq, rfl, _, _, rfl, _, _, rfl, rfl, ?_⟩
          refine ⟨x, da, 2, 30, rfl, ⟨hx, m1⟩, ?_⟩
          cases c1 : intIn 2 30 da with
          | false =>
            have e : netD (.tuple [da, db]) = false := by
              cases da with
              | int n =>
                cases db with
                | tuple es =>
                  show ((decide (2 ≤ n) && decide (n ≤ 30)) && _) = false
                  rw [show (decide (2 ≤ n) && decide (n ≤ 30)) = false from c1]
                  rfl
                | _ => rfl
              | _ => rfl
            rw [e] at k
            refine (iteT (k _ (Same.refl _)) : if true = true then _ else _)
          | true =>
            refine iteF ?_
            cases hx with
            | int n =>
              have c1' : (decide (2 ≤ n) && decide (n ≤ 30)) = true := c1
              refine ⟨_, _, _, _, _, rfl, .ty _, hy.ty, kit_ty (kit_tuple db), ?_⟩
              cases hb2 : isTupB db with
              | false =>
                have e : netD (.tuple [.int n, db]) = false := by cases db <;> first | rfl | cases hb2
                rw [e] at k
                refine (iteT (iteT (k _ (Same.refl _))) : if true = true then _ else _)
              | true =>
                refine iteF ?_
                cases hy with
                | @tup b ys es hyq hya =>
                  have hlen2 := hya.length
                  obtain ⟨hn, hs2⟩ := smQ_tup m2
                  have en : netD (.tuple [.int n, .tuple es]) = ((decide (2 ≤ n) && decide (n ≤ 30)) && ((decide (1 ≤ es.length) && decide (es.length ≤ 40)) && (es.all (stepD n) && ascD (es.map firstD)))) := rfl
                  rw [en, c1'] at k
                  refine .inr ⟨ys, hyq, _, rfl, ?_⟩
                  have fin1 : (decide (1 ≤ es.length) && decide (es.length ≤ 40)) = false → Q (.bl false) H := fun e => by
                    rw [e] at k
                    exact k _ (Same.refl _)
                  refine ite2 (fun d1 => ?_) (fun d1 => ?_)
                  · have g1 : decide (1 ≤ es.length) = true := decide_eq_true (by have := of_decide_eq_true d1; omega)
                    refine ⟨_, rfl, ?_⟩
                    cases g2 : decide (es.length ≤ 40) with
                    | false =>
                      have d2 : decide ((ys.length : Int) ≤ 40) = false := decide_eq_false (by have := of_decide_eq_false g2; omega)
                      show (if (!decide ((ys.length : Int) ≤ 40)) = true then _ else _)
                      rw [d2]
                      exact iteT (fin1 (by rw [g1, g2]; rfl))
                    | true =>
                      have d2 : decide ((ys.length : Int) ≤ 40) = true := decide_eq_true (by have := of_decide_eq_true g2; omega)
                      show (if (!decide ((ys.length : Int) ≤ 40)) = true then _ else _)
                      rw [d2]
                      rw [g1, g2] at k
                      refine iteF ⟨b, rfl, ⟨_, hyq⟩, fun D hD => ?_⟩
                      refine lc_itS (walk_tup (xs := ys)) (fun j u _ => ∃ d, es[j]? = some d ∧ u = .bl (stepD n d)) (fun _ _ _ _ _ h => h) hD (by omega) (fun H' s5 => s5.sqT hyq) (fun j z H' H2 hj s5 hD5 ⟨e2, hz⟩ => ?_) gName_mono (fun H' acc s6 hl la hacc => ?_)
                      · subst e2
                        obtain ⟨d, h1, h2⟩ := hya.get hz
                        exact ⟨rfl, n, z, d, rfl, ⟨Dq.same s5 _ _ h2, smQ_mem hs2 h1⟩, fun H4 s7 => ⟨s7, d, h1, rfl⟩⟩
                      · have ea : acc = (es.map (stepD n)).map V.bl := acc_mapN (by rw [la, hlen2]) hacc
                        refine ⟨D, es.map (stepD n), rfl, SqL.of (by rw [← ea]; exact hl), ?_⟩
                        rw [all_mapN]
                        cases c3 : es.all (stepD n) with
                        | false =>
                          rw [c3] at k
                          refine (iteT (k _ s6) : if true = true then _ else _)
                        | true =>
                          rw [c3] at k
                          have hst : ∀ (j : Nat) (d : PyData), es[j]? = some d → ∃ x b c, d = .tuple [.str x, b, c] := fun j d hj => step_is (List.all_eq_true.mp c3 d (List.mem_of_getElem? hj))
                          refine iteF ⟨b, rfl, ⟨_, s6.sqT hyq⟩, fun D2 hD2 => ?_⟩
                          refine lc_itS (walk_tup (xs := ys)) (fun j u _ => ∃ x, (es.map firstD)[j]? = some (.str x) ∧ u = .str x) (fun _ _ _ _ _ h => h) hD2 (by omega) (fun H' s7 => (s6.trans s7).sqT hyq) (fun j z H' H2 hj s7 hD7 ⟨e2, hz⟩ => ?_) gName_mono (fun H2 acc2 s8 hl2 la2 hacc2 => ?_)
                          · subst e2
                            obtain ⟨d, h1, h2⟩ := hya.get hz
                            obtain ⟨x, bb, cc, rfl⟩ := hst j d h1
                            have h2' := Dq.same (s6.trans s7) _ _ h2
                            cases h2' with
                            | @tup q zs _ hzq hza =>
                              obtain ⟨z1, z2, z3, rfl, hz1, _, _⟩ := dq3 hza
                              cases hz1
                              refine ⟨rfl, .inr ⟨_, .str x, hzq, rfl, Same.refl _, x, ?_, rfl⟩⟩
                              rw [List.getElem?_map, h1]
                              rfl
                          · refine ⟨D2, acc2, es.map firstD, rfl, .inl (SqL.of hl2), dqAll_get _ _ (by simp [la2, hlen2]) (fun j u hu => ?_), .inr (fun j d hj => ?_), by simp; omega, fun H3 s9 => k _ ((s6.trans s8).trans s9)⟩
                            · obtain ⟨x, h1, rfl⟩ := hacc2 j u hu
                              exact ⟨.str x, h1, .str x⟩
                            · rw [List.getElem?_map] at hj
                              cases q : es[j]? with
                              | none => rw [q] at hj; cases hj
                              | some e0 =>
                                rw [q] at hj
                                obtain ⟨x, bb, cc, rfl⟩ := hst j e0 q
                                cases hj
                                rfl
                  · have g1 : decide (1 ≤ es.length) = false := decide_eq_false fun z => d1 (decide_eq_true (by omega))
                    exact ⟨_, rfl, iteT (fin1 (by rw [g1]; rfl))⟩
                | _ => cases hb2
            | _ => cases c1
        · have c : (!decide ((xs.length : Int) = 2)) = true := by rw [decide_eq_false (by omega)]; rfl
          show (if (!decide ((xs.length : Int) = 2)) = true then _ else _)
          rw [c]
          rw [net2 h2] at k
          exact iteT (k _ (Same.refl _))
      | _ => cases hb
end
end K02

set_option Elab.async false
set_option linter.all false
set_option maxRecDepth 100000
set_option maxHeartbeats 4000000
/-! is_workflow of what is no net, where an exception is handled. -/
namespace K02
open PySem L2 PySem.KX StX
section
variable {X : Cx} {e : Expr}
theorem pe_never : PE X e (fun _ _ _ => False) := ⟨fun _ _ _ _ _ _ h => h.elim⟩
end
section
variable {P : Program} {w : World} {K : PySem.W.Frag} {mg : Str → Option Value} {base : Heap}
def spWfN (K : PySem.W.Frag) : Sp := fun vs H Q _ => ∃ (v : V) (d : PyData), vs = [v] ∧ Wd K H v d ∧ netD d = false ∧ ∀ H', Same H H' → Q (.bl false) H'
theorem hot_is_workflow {f : Addr} {fd : FuncData} (F : Fun K "is_workflow" "is_workflow" sis_workflow f fd) (Ois_net : OwnI P w K mg base "is_net" 5 ["value"] (spN K netD)) : L2H.FnH P w K mg base CX0 6 f fd ["value"] (spWfN K) := by
  have nd := scis_workflow.nd
  refine okH F scis_workflow (fun vs H Q E h => ?_) (fun cdv A outer s H vs Q E pp hot hr h => ?_)
  · obtain ⟨_, _, rfl, _⟩ := h
    rfl
  · obtain ⟨v, d, rfl, hd, hn, k⟩ := h
    refine ⟨_, (pss_one (ps_ret (pe_and (pe_ownI Ois_net hr hot (pa_cons (av 0) pa_nil) (by decide)) (pe_one pe_never)))), ?_⟩
    refine ⟨v, d, rfl, hd, fun H1 s1 => ⟨_, rfl, ?_⟩⟩
    rw [hn]
    exact iteF (k _ s1)
end
end K02

set_option Elab.async false
set_option linter.all false
set_option maxRecDepth 100000
set_option maxHeartbeats 4000000
/-! Defs that raise outside any handling: what flies has no context (L2N). -/
namespace L2N
open PySem PySem.Spec PyProof.Rows PySem.KX L2
theorem takesEN {P : Program} {w : World} {K : PySem.W.Frag} {mg : Str → Option Value} {base : Heap} {N : List Str} {qual : Str} {scope : Scope} {f : Addr} {cdv : Value} {A : Around} {outer : List Env} {s : Shared} {H : Hp} {E : XK} :
    Takes (cxOf (L2N.CX P w) P w K mg base N qual scope f cdv A outer s H E) (fun cls d _ H => E cls d H) := takes_of rfl rfl rfl rfl
theorem passEN {P : Program} {w : World} {K : PySem.W.Frag} {mg : Str → Option Value} {base : Heap} {N : List Str} {qual : Str} {scope : Scope} {f : Addr} {cdv : Value} {A : Around} {outer : List Env} {s : Shared} {H : Hp} {E : XK} :
    Passes (L2N.CX P w) (cxOf (L2N.CX P w) P w K mg base N qual scope f cdv A outer s H E) E := passes_call takesEN fun _ _ _ _ h => h
section
variable {P : Program} {w : World} {K : PySem.W.Frag} {mg : Str → Option Value} {base : Heap}
theorem okGN {x qual : Str} {st : Stmt} {f : Addr} {fd : FuncData} {N ps : List Str} {k : Nat} {sp : Sp} (F : Fun K x qual st f fd) (S : FnScope N ps (defScope st)) (len : ∀ vs H Q E, sp vs H Q E → vs.length = ps.length)
    (hbody : ∀ (cdv : Value) (A : Around) (outer : List Env) (s : Shared) (H : Hp) (vs : List V) (Q : VK) (E : XK), RoomG k (A.deeper (envOfC qual (defScope st) s.heap.objs.size f cdv)) → sp vs H Q E →
      ∃ t, PSs (cxOf (L2N.CX P w) P w K mg base N qual (defScope st) f cdv A outer s H E) (defBody st) t ∧ t { nx := fun _ H' => Q .non H', rt := Q } (start N vs) H) : FnG P w K mg base (L2N.CX P w) (k + 1) f fd ps sp := by
  obtain ⟨oc, od, kV, doc, pm, an, cdv, ct, osl, rfl, lk, hcd⟩ := F.ex
  exact fn_ofG lk hcd S len fun A outer s H vs Q E hr hsp => hbody cdv A outer s H vs Q E hr hsp
end
section
variable {X : Cx} {k j : Nat} {ps : List Str} {sp : Sp} {x : Str} {p pos : Pos} {e : Expr} {es : List Expr} {t : TA} {E : XK}
theorem pe_ownXN (O : Own X.prog X.w X.K X.mg X.base (L2N.CX X.prog X.w) x k ps sp) (hr : RoomG j X.A) (hx : Passes (L2N.CX X.prog X.w) X E) (ha : PA X (e :: es) t) (hk : k ≤ j := by decide) (hg : Gl X x := by rfl) (hdb : (x == ("__debug__" : Str)) = false := by decide)
    (he : starEach (e :: es) X.env = (false, eval e X.env) :: starEach es X.env := by rfl) (hpl : (backTo pos (starEach es X.env)).any (·.1) = false := by rfl) : PE X (.Call (.Name x p) (e :: es) [] pos) (tCall sp [] E t) := by
  obtain ⟨f, fd, F, hm, hkp, hb⟩ := O.ex
  exact pe_callG F (hr.mono hk) hg hm hkp hb .nil hx ha hdb he hpl
/-- such a def in a try's body -/
theorem pe_ownSN {W : WX} (O : Own X.prog X.w X.K X.mg X.base (L2N.CX X.prog X.w) x k ps sp) (hr : RoomG j X.A) (tk : L2N.Takes X W) (ha : PA X (e :: es) t) (hk : k ≤ j := by decide) (hg : Gl X x := by rfl) (hdb : (x == ("__debug__" : Str)) = false := by decide)
    (he : starEach (e :: es) X.env = (false, eval e X.env) :: starEach es X.env := by rfl) (hpl : (backTo pos (starEach es X.env)).any (·.1) = false := by rfl) : PE X (.Call (.Name x p) (e :: es) [] pos) (tCallS sp (WE W) t) := by
  obtain ⟨f, fd, F, hm, hkp, hb⟩ := O.ex
  refine ⟨fun pins s σ H Q I h => ?_⟩
  refine wpAny_Call_Name_kw (ld_glob I hg hm ?_ hdb)
  refine PySem.W.callWith_K (h₀ := X.base) I.ok.mod.kin hkp (thn (ha.run pos pins s σ H _ I h) fun us s1 ⟨vs, H1, I1, r, q⟩ => ⟨I1.kIn, ?_⟩) he hpl
  have hl : us.length = ps.length := by rw [← r.length]; exact F.len _ _ _ _ q
  have b := hb s1 us I1.kIn (by rw [List.append_nil]; exact hl)
  rw [List.append_nil] at b
  refine wpAny_call (codeAny_mono (F.run X.A X.stack s1 H1 ⟨us, []⟩ us vs Q (WE W σ) (hr.mono hk) I1.env0 b r q) fun r s' hq => ?_)
  cases r with
  | error e => exact passAt tk σ pins H1 s1 e s' I1 hq
  | ok fl =>
    cases fl with
    | ret u => exact I1.after hq
    | next => exact False.elim hq
    | brk => exact False.elim hq
    | cont => exact False.elim hq
end
end L2N

set_option Elab.async false
set_option linter.all false
set_option maxRecDepth 100000
set_option maxHeartbeats 4000000
/-! check_net and net_defects: what they raise has no context. -/
namespace K02
open PySem L2 PySem.KX StX
section
variable {P : Program} {w : World} {K : PySem.W.Frag} {mg : Str → Option Value} {base : Heap}
theorem okN_check_net {f cI : Addr} {fd : FuncData} (F : Fun K "check_net" "check_net" scheck_net f fd) (Ei : ErrM K mg "InvalidNet" cI "ValueError.__new__" bmVE) (tI : PySem.W.typeIn K (.ref cI) = some (.type "type")) (Ois_net : Own P w K mg base CX0 "is_net" 5 ["value"] (spN K netD)) :
    FnG P w K mg base (L2N.CX P w) 6 f fd ["net"] (spChk K cI netD) := by
  have nd := sccheck_net.nd
  refine L2N.okGN F sccheck_net (fun vs H Q E h => ?_) (fun cdv A outer s H vs Q E hr h => ?_)
  · obtain ⟨_, _, rfl, _⟩ := h
    rfl
  · obtain ⟨v, d, rfl, hd, k1, k2⟩ := h
    refine ⟨_, (pss_one (ps_if (pt_not (pt_valA (pe_own Ois_net hr (pa_cons (av 0) pa_nil) (by decide)))) (pss_one (L2N.ps_raise rfl L2N.takesEN (L2N.pmk_own FVE Ei.q Ei.g Ei.k (raises_own Ei.xi.ex tI) rfl))) pss_nil)), ?_⟩
    refine ⟨v, d, rfl, hd, fun H' s' => ?_⟩
    cases c : netD d with
    | true => exact iteF (k1 c _ s')
    | false => refine (iteT (k2 c _ s') : if true = true then _ else _)
theorem okN_net_defects {f cI : Addr} {fd : FuncData} (F : Fun K "net_defects" "net_defects" snet_defects f fd) (htup : mg "tuple" = none) (hsorted : mg "sorted" = none) (Ocheck_net : Own P w K mg base (L2N.CX P w) "check_net" 6 ["net"] (spChk K cI netD)) (O_all : Own P w K mg base CX0 "_all_defects" 3 ["net"] (spRows K allL)) :
    FnG P w K mg base (L2N.CX P w) 7 f fd ["net"] (spDefs K cI) := by
  have nd := scnet_defects.nd
  refine L2N.okGN F scnet_defects (fun vs H Q E h => ?_) (fun cdv A outer s H vs Q E hr h => ?_)
  · obtain ⟨_, _, rfl, _⟩ := h
    rfl
  · obtain ⟨v, d, rfl, hd, k⟩ := h
    refine ⟨_, (pss_cons (ps_expr (L2N.pe_ownXN Ocheck_net hr L2N.passEN (pa_cons (av 0) pa_nil) (by decide)))
      (pss_one (ps_ret (pe_callTy call_tupLS (by rfl) htup (by decide +kernel) (pa_cons (pe_callB (call_sortRow hr.units64) (by rfl) hsorted (by decide +kernel) (pa_cons (pe_own O_all hr (pa_cons (av 0) pa_nil) (by decide)) pa_nil)) pa_nil))))), ?_⟩
    refine ⟨v, d, rfl, hd, fun hg2 H1 s1 => ?_, fun hb H1 s1 => ?_⟩
    · rcases k with ⟨n, rows, rfl, hg, k⟩ | ⟨hn, k⟩
      · refine ⟨v, n, rows, rfl, Dq.same s1 _ _ hd.dq, hg, fun a xs H2 s2 n2 l2 r2 => ?_⟩
        refine ⟨a, xs, _, rfl, SqL.of l2, r2, fun r hr q hq => df_cmp (all_df r hr) (all_df q hq), fun ys p H3 s3 n3 l3 r3 => ?_⟩
        refine ⟨p, _, rfl, SqL.of l3, fun q H4 s4 n4 l4 => ?_⟩
        exact k q ys H4 (((s1.trans s2).trans s3).trans s4) (((s1.trans s2).trans s3).free n4) l4 (r3.same s4)
      · rw [hn] at hg2
        cases hg2
    · rcases k with ⟨n, rows, rfl, hg, k⟩ | ⟨hn, k⟩
      · rw [net_good hg] at hb
        cases hb
      · exact k _ s1
end
end K02

set_option Elab.async false
set_option linter.all false
set_option maxRecDepth 100000
set_option maxHeartbeats 4000000
/-! _law_refused -/
namespace K02
open PySem L2 PySem.KX StX
abbrev s_law_refused : Stmt := top 41
theorem sc_law_refused : FnScope ["thing"] ["thing"] (defScope s_law_refused) := ⟨rfl, rfl, rfl, by decide +kernel, rfl, by decide +kernel, by decide +kernel⟩
section
variable {X : Cx} {k j : Nat} {ps : List Str} {sp : Sp} {x : Str} {q pos : Pos} {e : Expr} {es : List Expr} {t : TA}
theorem pe_ownH (O : OwnI X.prog X.w X.K X.mg X.base x k ps sp) (hr : L2H.RoomH j X.A) (hc : L2H.HotC X) (ha : PA X (e :: es) t) (hk : k ≤ j := by decide) (hg : Gl X x := by rfl) (hdb : (x == ("__debug__" : Str)) = false := by decide)
    (he : starEach (e :: es) X.env = (false, eval e X.env) :: starEach es X.env := by rfl) (hpl : (backTo pos (starEach es X.env)).any (·.1) = false := by rfl) : PE X (.Call (.Name x q) (e :: es) [] pos) (tCallS sp (fun _ => E0) t) := by
  obtain ⟨f, fd, F, hm, hkp, hb⟩ := O.ex
  exact L2H.pe_callH F (hr.mono hk) hc hg hm hkp hb (fun σ pins H s e s' I h => Passes0 pins σ H s e s' I h) ha hdb he hpl
end
section
variable {P : Program} {w : World} {K : PySem.W.Frag} {mg : Str → Option Value} {base : Heap}
theorem ok_law_refused {f cI : Addr} {fd : FuncData} (F : Fun K "_law_refused" "_law_refused" s_law_refused f fd) (gI : mg "InvalidNet" = some (.ref cI)) (eII : PySem.W.exmOne K (.ref cI) (.ref cI) = some true)
    (Onet_defects : Own P w K mg base (L2N.CX P w) "net_defects" 7 ["net"] (spDefs K cI)) (Ois_workflow : OwnI P w K mg base "is_workflow" 6 ["value"] (spWfN K)) : FnG P w K mg base CX0 8 f fd ["thing"] (spRefused K) := by
  have nd := sc_law_refused.nd
  refine okG F sc_law_refused (fun vs H Q E h => ?_) (fun cdv A outer s H vs Q E hr h => ?_)
  · obtain ⟨_, _, rfl, _⟩ := h
    rfl
  · obtain ⟨v, d, rfl, hd, hn, k⟩ := h
    refine ⟨_, (pss_cons (L2H.ps_try_onlyX (Wout := fun _ _ _ _ => False) (tb := fun W => _) rfl rfl ⟨rfl, by decide, .inl gI⟩ (fun hd u s x => x.elim) takes0
      (fun W pn xe tk _ _ => pss_one (ps_expr (L2N.pe_ownSN Onet_defects hr tk (pa_cons (pv 0) pa_nil) (by decide))))
      (fun a oe cls d pn hz hf _ hot => pss_one (ps_ret (pe_cmpA op_isBl (pe_ownH Ois_workflow (L2H.roomH_mark hr.r _) hot (pa_cons (pv 0) pa_nil) (by decide)) pe_bl))))
      (pss_one (ps_ret pe_bl))), ?_⟩
    refine ⟨v, rfl, v, d, rfl, hd, .inr ⟨hn, fun H1 s1 => ?_⟩⟩
    refine ⟨true, eII, fun _ a na => ?_, fun z => nomatch z⟩
    refine ⟨v, rfl, v, d, rfl, hd.same s1, hn, fun H2 s2 => ?_⟩
    exact ⟨false, false, rfl, rfl, k H2 (s1.trans s2)⟩
end
end K02

set_option Elab.async false
set_option linter.all false
set_option maxRecDepth 100000
set_option maxHeartbeats 4000000
/-! anything in a list of texts; a def held by a variable; a list several times. -/
namespace L2
open PySem PySem.Spec PyProof.Rows PySem.KX SeqAt
theorem eqAt_strRef {A : Around} {s : Shared} {a : Str} {t : Tok} {p : Addr} {k : Bool} (h : RcAt A s (.str a t) (.ref p) k) : EqAt A s (.str a t) (.ref p) k := fun prog w E Q hq => by
  unfold eqBool
  refine wpAny_holding ?_
  refine wpAny_ite_split (fun hab => absurd (eq_of_beq hab) (fun z => nomatch z)) (fun _ => ?_)
  exact wpAny_bind (h prog w E _ (wpAny_truthy_bool hq))
def isStrU (d : PyData) : Value → Bool
  | .str a _ => isStrD a d
  | _ => false
def rNotInW (K : PySem.W.Frag) : R2 := fun x y H Q => ∃ (p : Addr) (ws : List Str) (d : PyData), y = .ref p ∧ SqL K H p (ws.map V.str) ∧ Dq K H x d ∧ Q (.bl (!ws.any fun a => isStrD a d)) H
theorem any_isStrU {d : PyData} : ∀ {ws : List Str} {us : List Value}, Vals (ws.map V.str) us → us.any (isStrU d) = ws.any fun a => isStrD a d
  | [], _, .nil => rfl
  | a :: ws, _, .cons r t => by
    obtain ⟨k, rfl⟩ := r
    rw [List.any_cons, List.any_cons, any_isStrU t]
    rfl
theorem mem_strs : ∀ {ws : List Str} {us : List Value}, Vals (ws.map V.str) us → ∀ u ∈ us, ∃ a t, u = .str a t
  | [], _, .nil => fun u hu => by cases hu
  | a :: ws, _, .cons r t => fun u' hu => by
    rcases List.mem_cons.mp hu with rfl | hu
    · obtain ⟨k, rfl⟩ := r
      exact ⟨a, k, rfl⟩
    · exact mem_strs t u' hu
theorem op_notInW {X : Cx} (hu : X.A.units + 64 < cLine) : OpR X (compareOp .NotIn) (rNotInW X.K) := by
  intro pins s σ H x y v u Q I rx ry h
  obtain ⟨p, ws, d, rfl, hq, hd, q⟩ := h
  cases ry
  obtain ⟨its, r, pl, hz⟩ := I.list hq
  have hu1 : X.A.units < cLine := by omega
  have hu2 : X.A.in1.units < cLine := by
    show X.A.units + 1 < cLine
    omega
  have key : ∀ (a : Str) (t : Tok) (A : Around), A.units < cLine → EqAt A s (.str a t) v (isStrD a d) := fun a t A hA => by
    cases hd with
    | non => cases rx; exact .str_none a t
    | bl b => cases rx; exact .str_bool a t b
    | int i => obtain ⟨t2, rfl⟩ := rx; exact .str_int a t i t2
    | str x => obtain ⟨t2, rfl⟩ := rx; exact .str_str a t x t2
    | lst hs ha =>
      cases rx
      obtain ⟨its, rv, ⟨o, n, ho, hc, _, hd⟩, _⟩ := I.list hs
      exact .str_list a t ⟨o, ho, hc, n, hd⟩ hA
    | tup hs ha =>
      cases rx
      obtain ⟨its, rv, ⟨o, ho, hc, n, hd⟩, _⟩ := I.tuple hs
      exact .str_tuple a t ⟨o, ho, hc, n, hd⟩ hA
    | emp e =>
      cases rx
      obtain ⟨hz, hsm, vs, rel, o, es, ep, ho, hx, hd, hk, hp, _⟩ := dk_of I.hok e
      exact eqAt_strRef (rcStrDict a t ho hx.1 hd hA)
  refine SeqAt.notIn_listAt (isStrU d) pl.isList (fun w hw => ?_) ⟨.bl _, H, I, rfl, ?_⟩
  · obtain ⟨a, t, rfl⟩ := mem_strs r w (by simpa using hw)
    exact key a t _ (by first | exact hu1 | exact hu2)
  · rw [show its.toArray.any (isStrU d) = its.any (isStrU d) by simp, any_isStrU r]
    exact q
/-- a list several times -/
def rRepS : R2 := fun x y H Q => ∃ l k xs, x = .ref l ∧ y = .int k ∧ H l = some (.lst xs) ∧ 0 ≤ k ∧ k ≤ 1000 ∧ xs.length ≤ 1000 ∧ ∀ p H', Same H H' → H p = none → H' p = some (.lst (List.replicate k.toNat xs).flatten) → Q (.ref p) H'
theorem op_repS {X : Cx} : OpR X (binaryOp .Mult) rRepS := op_rep.imp fun x y H Q ⟨l, k, xs, e1, e2, h1, h2, h3, h4, q⟩ => by
  refine ⟨l, k, xs, e1, e2, h1, by omega, by omega, ?_, fun p n => q p _ ((Same.refl _).new n) n upd_same⟩
  have h5 : k.toNat ≤ 1000 := by omega
  have := Nat.mul_le_mul h4 h5
  rw [sizeLine_eq]
  omega
section
variable {X : Cx} {k i : Nat} {f1 f2 : Addr} {fd1 fd2 : FuncData} {ps : List Str} {sp1 sp2 : Sp} {CX : CXT} {x : Str} {p pos : Pos} {e : Expr} {es : List Expr} {t : TA} {E : XK}
/-- one of two defs, held by a variable -/
theorem pe_callV (F1 : FnG X.prog X.w X.K X.mg X.base CX k f1 fd1 ps sp1) (F2 : FnG X.prog X.w X.K X.mg X.base CX k f2 fd2 ps sp2) (hr : RoomG k X.A) (hN : X.N[i]? = some x) (hv : Vis X.env.scope x)
    (hk1 : PySem.W.keepIn X.K (.ref f1) = true) (hk2 : PySem.W.keepIn X.K (.ref f2) = true) (hb1 : Binds X.K fd1 ps []) (hb2 : Binds X.K fd2 ps []) (hx : Passes CX X E) (ha : PA X (e :: es) t) (hd : (x == ("__debug__" : Str)) = false := by decide) (hcd : (x == ("__classdict__" : Str)) = false := by decide)
    (he : starEach (e :: es) X.env = (false, eval e X.env) :: starEach es X.env := by rfl) (hpl : (backTo pos (starEach es X.env)).any (·.1) = false := by rfl) :
    PE X (.Call (.Name x p) (e :: es) [] pos) (fun σ H Q => (σ[i]? = some (some (.ref f1)) ∧ tCall sp1 [] E t σ H Q) ∨ (σ[i]? = some (some (.ref f2)) ∧ tCall sp2 [] E t σ H Q)) := by
  have go : ∀ {f : Addr} {fd : FuncData} {sp : Sp}, FnG X.prog X.w X.K X.mg X.base CX k f fd ps sp → PySem.W.keepIn X.K (.ref f) = true → Binds X.K fd ps [] → PE X (.Call (.Name x p) (e :: es) [] pos) (fun σ H Q => σ[i]? = some (some (.ref f)) ∧ tCall sp [] E t σ H Q) := fun {f fd sp} F hk hb => by
    refine ⟨fun pins s σ H Q I h => ?_⟩
    obtain ⟨hs, h⟩ := h
    refine wpAny_Call_Name_kw (thn ((pe_var (pos := p) (i := i) hN hv hd hcd).run pins s σ H (fun v H1 => v = .ref f ∧ H1 = H) I ⟨.ref f, hs, rfl, rfl⟩) fun u s1 ⟨v, H1, I1, r1, q1⟩ => ?_)
    obtain ⟨ev, eH⟩ := q1
    subst ev
    rw [eH] at I1
    obtain rfl : u = Value.ref f := r1
    refine PySem.W.callWith_K (h₀ := X.base) I1.ok.mod.kin hk (thn (ha.run pos pins s1 σ H _ I1 h) fun us s2 ⟨vs, H2, I2, r, q⟩ => ⟨I2.kIn, ?_⟩) he hpl
    exact run_fnG F hr hb .nil hx I2 r q
  refine ⟨fun pins s σ H Q I h => ?_⟩
  rcases h with h | h
  · exact (go F1 hk1 hb1).run pins s σ H Q I h
  · exact (go F2 hk2 hb2).run pins s σ H Q I h
end
end L2

set_option Elab.async false
set_option linter.all false
set_option maxRecDepth 100000
set_option maxHeartbeats 4000000
/-! A list that is laid aside while an expression runs. -/
namespace L2
open PySem PySem.Spec PyProof.Rows PySem.KX
section
variable {X : Cx} {pins : List (Addr × Obj)} {σ : St} {H H' : Hp} {s s' : Shared} {D : Addr} {xs : List V} {o : Obj}
theorem hide1_ne {b : Addr} (h : b ≠ D) : hide [D] H b = H b := hide_in fun z => h (List.mem_singleton.mp z)
theorem hide1_at : hide [D] H D = none := by
  unfold hide
  rw [if_pos (List.mem_singleton.mpr rfl)]
/-- the list becomes a pin -/
theorem Inv.aside (I : Inv X pins σ H s) (hD : H D = some (.lst xs)) : ∃ (its : List Value) (n : Nat), Vals xs its ∧ xs.length ≤ sizeLine ∧ Inv X ((D, { cls := .type "list", data := .seq its.toArray n }) :: pins) σ (hide [D] H) s := by
  obtain ⟨hz, its, n, r, _, e⟩ := I.lstM hD
  refine ⟨its, n, r, hz, ?_⟩
  have sub : ∀ {b : Addr} {u : HO}, hide [D] H b = some u → b ≠ D ∧ H b = some u := fun {b u} q => by
    by_cases hb : b = D
    · rw [hb, hide1_at] at q; cases q
    · rw [hide1_ne hb] at q; exact ⟨hb, q⟩
  have non : ∀ {b : Addr}, H b = none → hide [D] H b = none := fun {b} q => by
    by_cases hb : b = D
    · rw [hb]; exact hide1_at
    · rw [hide1_ne hb]; exact q
  have big : ∀ {b : Addr} {u : HO}, H b = some u → (∀ ys, u ≠ .lst ys) → hide [D] H b = some u := fun {b u} q n => by
    by_cases hb : b = D
    · rw [hb, hD] at q; cases q; exact absurd rfl (n xs)
    · rw [hide1_ne hb]; exact q
  have nf : D ∉ X.fs := fun hm => by
    obtain ⟨_, ob, ho, _⟩ := I.ok.funs.mem hm
    have := I.base.free D ob ho (I.ok.frf D hm) fun z => I.ok.exfs D z hm
    rw [hD] at this
    cases this
  refine ⟨I.ok, I.os, I.bare, ⟨I.base.keep, I.base.slot, fun b ob q z hx => non (I.base.free b ob q z hx), I.base.there, fun b ys q => big (I.base.tups b ys q) (fun _ z => by cases z), fun b ob u q => big (I.base.frzs b ob u q) (fun _ z => by cases z), fun b ps q => ?_⟩, I.loc, I.cell, non I.free, fun x c q => non (I.freeC x c q), fun p hp => ?_, fun b u q => ?_, I.len⟩
  · obtain ⟨more, q2⟩ := I.base.tbls b ps q
    exact ⟨more, big q2 (fun _ z => by cases z)⟩
  · rcases List.mem_append.mp hp with z | z
    · obtain ⟨h1, h2, h3, h4, h5⟩ := I.pin p (List.mem_append_left _ z)
      exact ⟨h1, non h2, h3, h4, h5⟩
    · rcases List.mem_cons.mp z with rfl | z
      · refine ⟨e, hide1_at, fun q => ?_, nf, (fun v q => by cases q)⟩
        have h1 : D = X.env.locals := q
        rw [h1, I.free] at hD
        cases hD
      · obtain ⟨h1, h2, h3, h4, h5⟩ := I.pin p (List.mem_append_right _ z)
        exact ⟨h1, non h2, h3, h4, h5⟩
  · obtain ⟨hb, q2⟩ := sub q
    exact (I.hok b u q2).stay (fun _ _ _ r => r) (fun c q3 => big q3 (fun _ z => by cases z)) (fun c ys q3 => big q3 (fun _ z => by cases z))
/-- and comes back -/
theorem Inv.again {its : List Value} {n : Nat} (J : Inv X ((D, { cls := .type "list", data := .seq its.toArray n }) :: pins) σ H' s') (nb : ∀ ob, X.s_0.heap.get? D = some ob → X.H_0 D = none → D ∉ X.ex → False) (np : ∀ p ∈ X.pn ++ pins, p.1 ≠ D) (r : Vals xs its) (hz : xs.length ≤ sizeLine) : Inv X pins σ (upd H' D (.lst xs)) s' := by
  obtain ⟨e, nD, nL, nF, nC⟩ := J.pin _ (List.mem_append_right _ List.mem_cons_self)
  have nD' : H' D = none := nD
  have big : ∀ {b : Addr} {u : HO}, H' b = some u → upd H' D (.lst xs) b = some u := fun {b u} q => by rw [upd_ne (ne_of_none q nD')]; exact q
  have non : ∀ {b : Addr}, b ≠ D → H' b = none → upd H' D (.lst xs) b = none := fun {b} h q => by rw [upd_ne h]; exact q
  refine ⟨J.ok, J.os, J.bare, ⟨J.base.keep, J.base.slot, fun b ob q z hx => ?_, J.base.there, fun b ys q => big (J.base.tups b ys q), fun b ob u q => big (J.base.frzs b ob u q), fun b ps q => ?_⟩, J.loc, J.cell, ?_, fun x c q => ?_, fun p hp => ?_, fun b u q => ?_, J.len⟩
  · refine non (fun y => ?_) (J.base.free b ob q z hx)
    subst y
    exact nb ob q z hx
  · obtain ⟨more, q2⟩ := J.base.tbls b ps q
    exact ⟨more, big q2⟩
  · exact non (fun y => nL y.symm) J.free
  · refine non (fun y => ?_) (J.freeC x c q)
    obtain ⟨v, ob, h1, h2⟩ := J.cell x c q
    rw [y, e] at h1
    cases h1
    cases h2
  · have hp' : p ∈ X.pn ++ ((D, { cls := .type "list", data := .seq its.toArray n }) :: pins) := by
      rcases List.mem_append.mp hp with z | z
      · exact List.mem_append_left _ z
      · exact List.mem_append_right _ (List.mem_cons_of_mem _ z)
    obtain ⟨h1, h2, h3, h4, h5⟩ := J.pin p hp'
    exact ⟨h1, non (np p hp) h2, h3, h4, h5⟩
  · by_cases hb : b = D
    · subst hb
      rw [upd_same] at q
      cases q
      exact ⟨hz, its, n, r, e⟩
    · rw [upd_ne hb] at q
      exact (J.hok b u q).stay (fun _ _ _ r => r) (fun c q3 => big q3) (fun c ys q3 => big q3)
end
section
variable {X : Cx} {k j : Nat} {f : Addr} {fd : FuncData} {ps : List Str} {sp : Sp} {CX : CXT} {x : Str} {p pos : Pos} {e : Expr} {es : List Expr} {t : TA} {E : XK}
/-- a call, a list laid aside while it runs -/
def spAs (sp : Sp) : Sp := fun vs H Q E => ∃ (D : Addr) (xs : List V), H D = some (.lst xs) ∧ sp vs (hide [D] H) (fun v H' => H' D = none → Q v (upd H' D (.lst xs))) E
def tAs (sp : Sp) (t : TA) (E : XK) : TE := fun σ H Q => t σ H fun vs H1 => spAs sp vs H1 Q E
theorem pe_callAs (F : FnG X.prog X.w X.K X.mg X.base CX k f fd ps sp) (hr : RoomG k X.A) (hg : Gl X x) (hm : X.mg x = some (.ref f)) (hk : PySem.W.keepIn X.K (.ref f) = true) (hb : Binds X.K fd ps []) (hx : Passes CX X E)
    (ha : PA X (e :: es) t) (hdb : (x == ("__debug__" : Str)) = false := by decide) (he : starEach (e :: es) X.env = (false, eval e X.env) :: starEach es X.env := by rfl) (hpl : (backTo pos (starEach es X.env)).any (·.1) = false := by rfl) :
    PE X (.Call (.Name x p) (e :: es) [] pos) (tAs sp t E) := by
  refine ⟨fun pins s σ H Q I h => ?_⟩
  refine wpAny_Call_Name_kw (ld_glob I hg hm ?_ hdb)
  refine PySem.W.callWith_K (h₀ := X.base) I.ok.mod.kin hk (thn (ha.run pos pins s σ H _ I h) fun us s1 ⟨vs, H1, I1, r, q⟩ => ⟨I1.kIn, ?_⟩) he hpl
  obtain ⟨D, xs, hD, q⟩ := q
  obtain ⟨its, n, rv, hz, J⟩ := I1.aside hD
  have q2 : sp (vs ++ []) (hide [D] H1) (fun v H' => H' D = none → Q v (upd H' D (.lst xs))) E := by rw [List.append_nil]; exact q
  refine thn (run_fnG F hr hb .nil hx J r q2) fun u s' ⟨v, H', J', rv', q'⟩ => ⟨v, _, J'.again (fun ob h1 h2 h3 => ?_) (fun p hp z => ?_) rv hz, rv', q' (J'.pin _ (List.mem_append_right _ List.mem_cons_self)).2.1⟩
  · have := I1.base.free D ob h1 h2 h3
    rw [hD] at this
    cases this
  · have := (I1.pin p hp).2.1
    rw [z, hD] at this
    cases this
theorem pe_ownAs (O : Own X.prog X.w X.K X.mg X.base CX0 x k ps sp) (hr : RoomG j X.A) (ha : PA X (e :: es) t) (hk : k ≤ j := by decide) (hg : Gl X x := by rfl) (hdb : (x == ("__debug__" : Str)) = false := by decide)
    (he : starEach (e :: es) X.env = (false, eval e X.env) :: starEach es X.env := by rfl) (hpl : (backTo pos (starEach es X.env)).any (·.1) = false := by rfl) : PE X (.Call (.Name x p) (e :: es) [] pos) (tAs sp t E0) := by
  obtain ⟨f, fd, F, hm, hkp, hb⟩ := O.ex
  exact pe_callAs F (hr.mono hk) hg hm hkp hb (fun _ _ _ _ _ _ _ z => z.elim) ha hdb he hpl
end
end L2

set_option Elab.async false
set_option linter.all false
set_option maxRecDepth 100000
set_option maxHeartbeats 4000000
/-! The end of a law with lambdas: what is known of the tables of its defs. -/
namespace LamX
open PySem PySem.Spec PyProof.Rows L2
theorem walk_ofTT {l : PySem.W.OpenLaw} {n k : Nat} {q : Program} {loose : List Str} {XP : (Str → Option Value) → Heap → Prop} {YP : World → Heap → Prop} {d : DefRec} {K : Params → PySem.W.Frag} {CX : World → CXT} {x : Str}
    (hn : l.most = some n) (hn2 : n ≤ sizeLine) (hdf : d.params.defaults = []) (hr : Room k callerA) (hY : ∀ (w : World) (h : Heap), YP w h → (K w.params).In h)
    (F : ∀ (w : World) (mg : Str → Option Value) (fa : Addr) (h : Heap), YP w h → (K w.params).In h → h.Ns mainGlobals mg → mg d.name = some (.ref fa) →
      (∀ (y : Str) (e : DefRec) (c P : Addr), (recsOf q).find? (fun e => e.name == y) = some e → PySem.W.tabIn (K w.params) y = some (c, P) → PySem.W.CodeHd h c P ∧ h.get? P = some (PySem.W.tabObj #[])) → LawAtG l w (K w.params) (CX w) k n x mg fa h)
    (hCX : ∀ (w : World) (H : Hp) (s : Shared) (e : Value) (s' : Shared), CX w [] H s (fun _ _ _ => False) e s' → False) :
    PySem.W.WalkO q loose XP YP l.row.toRowW d [] (fun f vs => PySem.call f vs) := by
  refine Att.attach_callB hn hdf fun w s₀ s₁ mg mb fa o pm cd doc a vs ns G Y ho hd hcd hmg hobj hints hlen hbits hg => ?_
  have KX := hY w _ Y
  obtain ⟨fd, cs, sp, hT, nT, C, hb, hsp, hF⟩ := F w mg fa _ Y KX G.T.g hmg fun y e c P h1 h2 => PySem.W.tab_of G.T KX h1 h2
  exact law_callTG KX G.T.g G.T.b G.T.builtins G.T.nolimit hg hT nT C G.T.bmain hobj hints (Nat.le_trans hlen hn2) hr hF hb (fun H hH hS => hsp H a ns hlen hbits hH hS) fun H e s' => hCX w H s₁ e s'
theorem tabIn_of {K : PySem.W.Frag} {x : Str} {f c P : Addr} {oc oc2 : Value} {od od2 : Option Addr} {fd : FuncData} {osl osl2 : Array (Option Value)} {vs : Array Value}
    (h1 : PySem.W.nsIn K mainGlobals x = some (some (.ref f))) (h2 : K.lookup f = some ⟨oc, od, .func fd, osl⟩) (h3 : fd.code = .ref c) (h4 : K.lookup c = some ⟨oc2, od2, .fields vs, osl2⟩) (h5 : vs[11]? = some (.ref P)) : PySem.W.tabIn K x = some (c, P) := by
  unfold PySem.W.tabIn
  rw [h1]
  simp only [h2, h3, h4, h5]
end LamX

set_option Elab.async false
set_option linter.all false
set_option maxRecDepth 100000
set_option maxHeartbeats 4000000
namespace K02
open PySem L2 PySem.KX StX PyProof.Rows
def noneB (K : PySem.W.Frag) (ns : List Str) : Bool := ns.all fun n => decide (PySem.W.nsIn K mainGlobals n = some none)
theorem noneB_ok {K : PySem.W.Frag} {ns : List Str} (h : noneB K ns = true) {n : Str} (m : n ∈ ns) : PySem.W.nsIn K mainGlobals n = some none := of_decide_eq_true (List.all_eq_true.mp h n m)
def msgB (K : PySem.W.Frag) (C : Addr) : Bool := PySem.W.excIn K C bmVE "ValueError.__new__" && (PySem.W.keepIn K (.ref C) && (xiB K C && decide (PySem.W.findIn K (.ref C) "__str__" = some (some (.builtin "BaseException.__str__")))))
theorem msgB_ok {K : PySem.W.Frag} {mg : Str → Option Value} {x : Str} {C : Addr} (h : msgB K C = true) (g : mg x = some (.ref C)) : ErrM K mg x C "ValueError.__new__" bmVE := by
  obtain ⟨h1, h⟩ := Bool.and_eq_true_iff.mp h
  obtain ⟨h2, h⟩ := Bool.and_eq_true_iff.mp h
  obtain ⟨h3, h4⟩ := Bool.and_eq_true_iff.mp h
  exact ⟨h1, g, h2, xiB_ok h3, of_decide_eq_true h4⟩
theorem all_mk {l : PySem.W.OpenLaw} {w : World} {K : PySem.W.Frag} {h : Heap} {mg : Str → Option Value} {fa c0 f0 f1 f2 f3 f4 f5 f6 f7 f8 f9 f10 f11 f12 f13 f14 f15 f16 f17 f18 f19 f20 f21 f22 f23 f24 f25 f26 f27 f28 f29 f30 f31 f32 f33 f34 : Addr} {tkL tkP tkT : Tok} (X : K.In h) (G : h.Ns mainGlobals mg) (hfa : mg "law" = some (.ref fa))
    {od0 an0 : Option Addr} {sl0 : Array (Option Value)} {oc0 kV0 dc0 pm0 cd0 ct0 : Value}
    {od1 an1 : Option Addr} {sl1 : Array (Option Value)} {oc1 kV1 dc1 pm1 cd1 ct1 : Value}
    {od2 an2 : Option Addr} {sl2 : Array (Option Value)} {oc2 kV2 dc2 pm2 cd2 ct2 : Value}
    {od3 an3 : Option Addr} {sl3 : Array (Option Value)} {oc3 kV3 dc3 pm3 cd3 ct3 : Value}
    {od4 an4 : Option Addr} {sl4 : Array (Option Value)} {oc4 kV4 dc4 pm4 cd4 ct4 : Value}
    {od5 an5 : Option Addr} {sl5 : Array (Option Value)} {oc5 kV5 dc5 pm5 cd5 ct5 : Value}
    {od6 an6 : Option Addr} {sl6 : Array (Option Value)} {oc6 kV6 dc6 pm6 cd6 ct6 : Value}
    {od7 an7 : Option Addr} {sl7 : Array (Option Value)} {oc7 kV7 dc7 pm7 cd7 ct7 : Value}
    {od8 an8 : Option Addr} {sl8 : Array (Option Value)} {oc8 kV8 dc8 pm8 cd8 ct8 : Value}
    {od9 an9 : Option Addr} {sl9 : Array (Option Value)} {oc9 kV9 dc9 pm9 cd9 ct9 : Value}
    {od10 an10 : Option Addr} {sl10 : Array (Option Value)} {oc10 kV10 dc10 pm10 cd10 ct10 : Value}
    {od11 an11 : Option Addr} {sl11 : Array (Option Value)} {oc11 kV11 dc11 pm11 cd11 ct11 : Value}
    {od12 an12 : Option Addr} {sl12 : Array (Option Value)} {oc12 kV12 dc12 pm12 cd12 ct12 : Value}
    {od13 an13 : Option Addr} {sl13 : Array (Option Value)} {oc13 kV13 dc13 pm13 cd13 ct13 : Value}
    {od14 an14 : Option Addr} {sl14 : Array (Option Value)} {oc14 kV14 dc14 pm14 cd14 ct14 : Value}
    {od15 an15 : Option Addr} {sl15 : Array (Option Value)} {oc15 kV15 dc15 pm15 cd15 ct15 : Value}
    {od16 an16 : Option Addr} {sl16 : Array (Option Value)} {oc16 kV16 dc16 pm16 cd16 ct16 : Value}
    {od17 an17 : Option Addr} {sl17 : Array (Option Value)} {oc17 kV17 dc17 pm17 cd17 ct17 : Value}
    {od18 an18 : Option Addr} {sl18 : Array (Option Value)} {oc18 kV18 dc18 pm18 cd18 ct18 : Value}
    {od19 an19 : Option Addr} {sl19 : Array (Option Value)} {oc19 kV19 dc19 pm19 cd19 ct19 : Value}
    {od20 an20 : Option Addr} {sl20 : Array (Option Value)} {oc20 kV20 dc20 pm20 cd20 ct20 : Value}
    {od21 an21 : Option Addr} {sl21 : Array (Option Value)} {oc21 kV21 dc21 pm21 cd21 ct21 : Value}
    {od22 an22 : Option Addr} {sl22 : Array (Option Value)} {oc22 kV22 dc22 pm22 cd22 ct22 : Value}
    {od23 an23 : Option Addr} {sl23 : Array (Option Value)} {oc23 kV23 dc23 pm23 cd23 ct23 : Value}
    {od24 an24 : Option Addr} {sl24 : Array (Option Value)} {oc24 kV24 dc24 pm24 cd24 ct24 : Value}
    {od25 an25 : Option Addr} {sl25 : Array (Option Value)} {oc25 kV25 dc25 pm25 cd25 ct25 : Value}
    {od26 an26 : Option Addr} {sl26 : Array (Option Value)} {oc26 kV26 dc26 pm26 cd26 ct26 : Value}
    {od27 an27 : Option Addr} {sl27 : Array (Option Value)} {oc27 kV27 dc27 pm27 cd27 ct27 : Value}
    {od28 an28 : Option Addr} {sl28 : Array (Option Value)} {oc28 kV28 dc28 pm28 cd28 ct28 : Value}
    {od29 an29 : Option Addr} {sl29 : Array (Option Value)} {oc29 kV29 dc29 pm29 cd29 ct29 : Value}
    {od30 an30 : Option Addr} {sl30 : Array (Option Value)} {oc30 kV30 dc30 pm30 cd30 ct30 : Value}
    {od31 an31 : Option Addr} {sl31 : Array (Option Value)} {oc31 kV31 dc31 pm31 cd31 ct31 : Value}
    {od32 an32 : Option Addr} {sl32 : Array (Option Value)} {oc32 kV32 dc32 pm32 cd32 ct32 : Value}
    {od33 an33 : Option Addr} {sl33 : Array (Option Value)} {oc33 kV33 dc33 pm33 cd33 ct33 : Value}
    {od34 an34 : Option Addr} {sl34 : Array (Option Value)} {oc34 kV34 dc34 pm34 cd34 ct34 : Value}
    (aC0 : PySem.W.nsIn K mainGlobals "InvalidNet" = some (some (.ref c0)))
    (a0 : PySem.W.nsIn K mainGlobals "is_integer" = some (some (.ref f0))) (l0 : K.lookup f0 = some ⟨oc0, od0, .func (PySem.W.fnOf "is_integer" "is_integer" (defArgs sis_integer) (defBody sis_integer) (defScope sis_integer) .none kV0 dc0 pm0 an0 cd0 ct0), sl0⟩) (d0 : PySem.W.codeIn K cd0 "is_integer" = true) (k0 : PySem.W.keepIn K (.ref f0) = true)
    (a1 : PySem.W.nsIn K mainGlobals "is_integer_within" = some (some (.ref f1))) (l1 : K.lookup f1 = some ⟨oc1, od1, .func (PySem.W.fnOf "is_integer_within" "is_integer_within" (defArgs sis_integer_within) (defBody sis_integer_within) (defScope sis_integer_within) .none kV1 dc1 pm1 an1 cd1 ct1), sl1⟩) (d1 : PySem.W.codeIn K cd1 "is_integer_within" = true) (k1 : PySem.W.keepIn K (.ref f1) = true)
    (a2 : PySem.W.nsIn K mainGlobals "is_name" = some (some (.ref f2))) (l2 : K.lookup f2 = some ⟨oc2, od2, .func (PySem.W.fnOf "is_name" "is_name" (defArgs sis_name) (defBody sis_name) (defScope sis_name) .none kV2 dc2 pm2 an2 cd2 ct2), sl2⟩) (d2 : PySem.W.codeIn K cd2 "is_name" = true) (k2 : PySem.W.keepIn K (.ref f2) = true)
    (a3 : PySem.W.nsIn K mainGlobals "ascends" = some (some (.ref f3))) (l3 : K.lookup f3 = some ⟨oc3, od3, .func (PySem.W.fnOf "ascends" "ascends" (defArgs sascends) (defBody sascends) (defScope sascends) .none kV3 dc3 pm3 an3 cd3 ct3), sl3⟩) (d3 : PySem.W.codeIn K cd3 "ascends" = true) (k3 : PySem.W.keepIn K (.ref f3) = true)
    (a4 : PySem.W.nsIn K mainGlobals "are_places" = some (some (.ref f4))) (l4 : K.lookup f4 = some ⟨oc4, od4, .func (PySem.W.fnOf "are_places" "are_places" (defArgs sare_places) (defBody sare_places) (defScope sare_places) .none kV4 dc4 pm4 an4 cd4 ct4), sl4⟩) (d4 : PySem.W.codeIn K cd4 "are_places" = true) (k4 : PySem.W.keepIn K (.ref f4) = true)
    (a5 : PySem.W.nsIn K mainGlobals "_is_step" = some (some (.ref f5))) (l5 : K.lookup f5 = some ⟨oc5, od5, .func (PySem.W.fnOf "_is_step" "_is_step" (defArgs s_is_step) (defBody s_is_step) (defScope s_is_step) .none kV5 dc5 pm5 an5 cd5 ct5), sl5⟩) (d5 : PySem.W.codeIn K cd5 "_is_step" = true) (k5 : PySem.W.keepIn K (.ref f5) = true)
    (a6 : PySem.W.nsIn K mainGlobals "is_net" = some (some (.ref f6))) (l6 : K.lookup f6 = some ⟨oc6, od6, .func (PySem.W.fnOf "is_net" "is_net" (defArgs sis_net) (defBody sis_net) (defScope sis_net) .none kV6 dc6 pm6 an6 cd6 ct6), sl6⟩) (d6 : PySem.W.codeIn K cd6 "is_net" = true) (k6 : PySem.W.keepIn K (.ref f6) = true)
    (a7 : PySem.W.nsIn K mainGlobals "check_net" = some (some (.ref f7))) (l7 : K.lookup f7 = some ⟨oc7, od7, .func (PySem.W.fnOf "check_net" "check_net" (defArgs scheck_net) (defBody scheck_net) (defScope scheck_net) .none kV7 dc7 pm7 an7 cd7 ct7), sl7⟩) (d7 : PySem.W.codeIn K cd7 "check_net" = true) (k7 : PySem.W.keepIn K (.ref f7) = true)
    (a8 : PySem.W.nsIn K mainGlobals "have_common" = some (some (.ref f8))) (l8 : K.lookup f8 = some ⟨oc8, od8, .func (PySem.W.fnOf "have_common" "have_common" (defArgs shave_common) (defBody shave_common) (defScope shave_common) .none kV8 dc8 pm8 an8 cd8 ct8), sl8⟩) (d8 : PySem.W.codeIn K cd8 "have_common" = true) (k8 : PySem.W.keepIn K (.ref f8) = true)
    (a9 : PySem.W.nsIn K mainGlobals "_reached" = some (some (.ref f9))) (l9 : K.lookup f9 = some ⟨oc9, od9, .func (PySem.W.fnOf "_reached" "_reached" (defArgs s_reached) (defBody s_reached) (defScope s_reached) .none kV9 dc9 pm9 an9 cd9 ct9), sl9⟩) (d9 : PySem.W.codeIn K cd9 "_reached" = true) (k9 : PySem.W.keepIn K (.ref f9) = true)
    (a10 : PySem.W.nsIn K mainGlobals "_end_defects" = some (some (.ref f10))) (l10 : K.lookup f10 = some ⟨oc10, od10, .func (PySem.W.fnOf "_end_defects" "_end_defects" (defArgs s_end_defects) (defBody s_end_defects) (defScope s_end_defects) .none kV10 dc10 pm10 an10 cd10 ct10), sl10⟩) (d10 : PySem.W.codeIn K cd10 "_end_defects" = true) (k10 : PySem.W.keepIn K (.ref f10) = true)
    (a11 : PySem.W.nsIn K mainGlobals "_choice_defects" = some (some (.ref f11))) (l11 : K.lookup f11 = some ⟨oc11, od11, .func (PySem.W.fnOf "_choice_defects" "_choice_defects" (defArgs s_choice_defects) (defBody s_choice_defects) (defScope s_choice_defects) .none kV11 dc11 pm11 an11 cd11 ct11), sl11⟩) (d11 : PySem.W.codeIn K cd11 "_choice_defects" = true) (k11 : PySem.W.keepIn K (.ref f11) = true)
    (a12 : PySem.W.nsIn K mainGlobals "_path_defects" = some (some (.ref f12))) (l12 : K.lookup f12 = some ⟨oc12, od12, .func (PySem.W.fnOf "_path_defects" "_path_defects" (defArgs s_path_defects) (defBody s_path_defects) (defScope s_path_defects) .none kV12 dc12 pm12 an12 cd12 ct12), sl12⟩) (d12 : PySem.W.codeIn K cd12 "_path_defects" = true) (k12 : PySem.W.keepIn K (.ref f12) = true)
    (a13 : PySem.W.nsIn K mainGlobals "_all_defects" = some (some (.ref f13))) (l13 : K.lookup f13 = some ⟨oc13, od13, .func (PySem.W.fnOf "_all_defects" "_all_defects" (defArgs s_all_defects) (defBody s_all_defects) (defScope s_all_defects) .none kV13 dc13 pm13 an13 cd13 ct13), sl13⟩) (d13 : PySem.W.codeIn K cd13 "_all_defects" = true) (k13 : PySem.W.keepIn K (.ref f13) = true)
    (a14 : PySem.W.nsIn K mainGlobals "is_workflow" = some (some (.ref f14))) (l14 : K.lookup f14 = some ⟨oc14, od14, .func (PySem.W.fnOf "is_workflow" "is_workflow" (defArgs sis_workflow) (defBody sis_workflow) (defScope sis_workflow) .none kV14 dc14 pm14 an14 cd14 ct14), sl14⟩) (d14 : PySem.W.codeIn K cd14 "is_workflow" = true) (k14 : PySem.W.keepIn K (.ref f14) = true)
    (a15 : PySem.W.nsIn K mainGlobals "net_defects" = some (some (.ref f15))) (l15 : K.lookup f15 = some ⟨oc15, od15, .func (PySem.W.fnOf "net_defects" "net_defects" (defArgs snet_defects) (defBody snet_defects) (defScope snet_defects) .none kV15 dc15 pm15 an15 cd15 ct15), sl15⟩) (d15 : PySem.W.codeIn K cd15 "net_defects" = true) (k15 : PySem.W.keepIn K (.ref f15) = true)
    (a16 : PySem.W.nsIn K mainGlobals "_law_dice" = some (some (.ref f16))) (l16 : K.lookup f16 = some ⟨oc16, od16, .func (PySem.W.fnOf "_law_dice" "_law_dice" (defArgs s_law_dice) (defBody s_law_dice) (defScope s_law_dice) .none kV16 dc16 pm16 an16 cd16 ct16), sl16⟩) (d16 : PySem.W.codeIn K cd16 "_law_dice" = true) (k16 : PySem.W.keepIn K (.ref f16) = true)
    (a17 : PySem.W.nsIn K mainGlobals "_law_roll" = some (some (.ref f17))) (l17 : K.lookup f17 = some ⟨oc17, od17, .func (PySem.W.fnOf "_law_roll" "_law_roll" (defArgs s_law_roll) (defBody s_law_roll) (defScope s_law_roll) .none kV17 dc17 pm17 an17 cd17 ct17), sl17⟩) (d17 : PySem.W.codeIn K cd17 "_law_roll" = true) (k17 : PySem.W.keepIn K (.ref f17) = true)
    (a18 : PySem.W.nsIn K mainGlobals "_law_one_of" = some (some (.ref f18))) (l18 : K.lookup f18 = some ⟨oc18, od18, .func (PySem.W.fnOf "_law_one_of" "_law_one_of" (defArgs s_law_one_of) (defBody s_law_one_of) (defScope s_law_one_of) .none kV18 dc18 pm18 an18 cd18 ct18), sl18⟩) (d18 : PySem.W.codeIn K cd18 "_law_one_of" = true) (k18 : PySem.W.keepIn K (.ref f18) = true)
    (a19 : PySem.W.nsIn K mainGlobals "_law_mixed" = some (some (.ref f19))) (l19 : K.lookup f19 = some ⟨oc19, od19, .func (PySem.W.fnOf "_law_mixed" "_law_mixed" (defArgs s_law_mixed) (defBody s_law_mixed) (defScope s_law_mixed) .none kV19 dc19 pm19 an19 cd19 ct19), sl19⟩) (d19 : PySem.W.codeIn K cd19 "_law_mixed" = true) (k19 : PySem.W.keepIn K (.ref f19) = true)
    (a20 : PySem.W.nsIn K mainGlobals "_law_words" = some (some (.ref f20))) (l20 : K.lookup f20 = some ⟨oc20, od20, .func (PySem.W.fnOf "_law_words" "_law_words" (defArgs s_law_words) (defBody s_law_words) (defScope s_law_words) .none kV20 dc20 pm20 an20 cd20 ct20), sl20⟩) (d20 : PySem.W.codeIn K cd20 "_law_words" = true) (k20 : PySem.W.keepIn K (.ref f20) = true)
    (a21 : PySem.W.nsIn K mainGlobals "_law_any_net" = some (some (.ref f21))) (l21 : K.lookup f21 = some ⟨oc21, od21, .func (PySem.W.fnOf "_law_any_net" "_law_any_net" (defArgs s_law_any_net) (defBody s_law_any_net) (defScope s_law_any_net) .none kV21 dc21 pm21 an21 cd21 ct21), sl21⟩) (d21 : PySem.W.codeIn K cd21 "_law_any_net" = true) (k21 : PySem.W.keepIn K (.ref f21) = true)
    (a22 : PySem.W.nsIn K mainGlobals "_law_forward" = some (some (.ref f22))) (l22 : K.lookup f22 = some ⟨oc22, od22, .func (PySem.W.fnOf "_law_forward" "_law_forward" (defArgs s_law_forward) (defBody s_law_forward) (defScope s_law_forward) .none kV22 dc22 pm22 an22 cd22 ct22), sl22⟩) (d22 : PySem.W.codeIn K cd22 "_law_forward" = true) (k22 : PySem.W.keepIn K (.ref f22) = true)
    (a23 : PySem.W.nsIn K mainGlobals "_law_defects" = some (some (.ref f23))) (l23 : K.lookup f23 = some ⟨oc23, od23, .func (PySem.W.fnOf "_law_defects" "_law_defects" (defArgs s_law_defects) (defBody s_law_defects) (defScope s_law_defects) .none kV23 dc23 pm23 an23 cd23 ct23), sl23⟩) (d23 : PySem.W.codeIn K cd23 "_law_defects" = true) (k23 : PySem.W.keepIn K (.ref f23) = true)
    (a24 : PySem.W.nsIn K mainGlobals "_law_fitting" = some (some (.ref f24))) (l24 : K.lookup f24 = some ⟨oc24, od24, .func (PySem.W.fnOf "_law_fitting" "_law_fitting" (defArgs s_law_fitting) (defBody s_law_fitting) (defScope s_law_fitting) .none kV24 dc24 pm24 an24 cd24 ct24), sl24⟩) (d24 : PySem.W.codeIn K cd24 "_law_fitting" = true) (k24 : PySem.W.keepIn K (.ref f24) = true)
    (a25 : PySem.W.nsIn K mainGlobals "_law_grown" = some (some (.ref f25))) (l25 : K.lookup f25 = some ⟨oc25, od25, .func (PySem.W.fnOf "_law_grown" "_law_grown" (defArgs s_law_grown) (defBody s_law_grown) (defScope s_law_grown) .none kV25 dc25 pm25 an25 cd25 ct25), sl25⟩) (d25 : PySem.W.codeIn K cd25 "_law_grown" = true) (k25 : PySem.W.keepIn K (.ref f25) = true)
    (a26 : PySem.W.nsIn K mainGlobals "_law_spoilt" = some (some (.ref f26))) (l26 : K.lookup f26 = some ⟨oc26, od26, .func (PySem.W.fnOf "_law_spoilt" "_law_spoilt" (defArgs s_law_spoilt) (defBody s_law_spoilt) (defScope s_law_spoilt) .none kV26 dc26 pm26 an26 cd26 ct26), sl26⟩) (d26 : PySem.W.codeIn K cd26 "_law_spoilt" = true) (k26 : PySem.W.keepIn K (.ref f26) = true)
    (a27 : PySem.W.nsIn K mainGlobals "_law_net" = some (some (.ref f27))) (l27 : K.lookup f27 = some ⟨oc27, od27, .func (PySem.W.fnOf "_law_net" "_law_net" (defArgs s_law_net) (defBody s_law_net) (defScope s_law_net) .none kV27 dc27 pm27 an27 cd27 ct27), sl27⟩) (d27 : PySem.W.codeIn K cd27 "_law_net" = true) (k27 : PySem.W.keepIn K (.ref f27) = true)
    (a28 : PySem.W.nsIn K mainGlobals "_law_any_workflow" = some (some (.ref f28))) (l28 : K.lookup f28 = some ⟨oc28, od28, .func (PySem.W.fnOf "_law_any_workflow" "_law_any_workflow" (defArgs s_law_any_workflow) (defBody s_law_any_workflow) (defScope s_law_any_workflow) .none kV28 dc28 pm28 an28 cd28 ct28), sl28⟩) (d28 : PySem.W.codeIn K cd28 "_law_any_workflow" = true) (k28 : PySem.W.keepIn K (.ref f28) = true)
    (a29 : PySem.W.nsIn K mainGlobals "_law_backwards" = some (some (.ref f29))) (l29 : K.lookup f29 = some ⟨oc29, od29, .func (PySem.W.fnOf "_law_backwards" "_law_backwards" (defArgs s_law_backwards) (defBody s_law_backwards) (defScope s_law_backwards) .none kV29 dc29 pm29 an29 cd29 ct29), sl29⟩) (d29 : PySem.W.codeIn K cd29 "_law_backwards" = true) (k29 : PySem.W.keepIn K (.ref f29) = true)
    (a30 : PySem.W.nsIn K mainGlobals "_law_turned" = some (some (.ref f30))) (l30 : K.lookup f30 = some ⟨oc30, od30, .func (PySem.W.fnOf "_law_turned" "_law_turned" (defArgs s_law_turned) (defBody s_law_turned) (defScope s_law_turned) .none kV30 dc30 pm30 an30 cd30 ct30), sl30⟩) (d30 : PySem.W.codeIn K cd30 "_law_turned" = true) (k30 : PySem.W.keepIn K (.ref f30) = true)
    (a31 : PySem.W.nsIn K mainGlobals "_law_right" = some (some (.ref f31))) (l31 : K.lookup f31 = some ⟨oc31, od31, .func (PySem.W.fnOf "_law_right" "_law_right" (defArgs s_law_right) (defBody s_law_right) (defScope s_law_right) .none kV31 dc31 pm31 an31 cd31 ct31), sl31⟩) (d31 : PySem.W.codeIn K cd31 "_law_right" = true) (k31 : PySem.W.keepIn K (.ref f31) = true)
    (a32 : PySem.W.nsIn K mainGlobals "_law_refused" = some (some (.ref f32))) (l32 : K.lookup f32 = some ⟨oc32, od32, .func (PySem.W.fnOf "_law_refused" "_law_refused" (defArgs s_law_refused) (defBody s_law_refused) (defScope s_law_refused) .none kV32 dc32 pm32 an32 cd32 ct32), sl32⟩) (d32 : PySem.W.codeIn K cd32 "_law_refused" = true) (k32 : PySem.W.keepIn K (.ref f32) = true)
    (a33 : PySem.W.nsIn K mainGlobals "_law_written_right" = some (some (.ref f33))) (l33 : K.lookup f33 = some ⟨oc33, od33, .func (PySem.W.fnOf "_law_written_right" "_law_written_right" (defArgs s_law_written_right) (defBody s_law_written_right) (defScope s_law_written_right) .none kV33 dc33 pm33 an33 cd33 ct33), sl33⟩) (d33 : PySem.W.codeIn K cd33 "_law_written_right" = true) (k33 : PySem.W.keepIn K (.ref f33) = true)
    (a34 : PySem.W.nsIn K mainGlobals "law" = some (some (.ref f34))) (l34 : K.lookup f34 = some ⟨oc34, od34, .func (PySem.W.fnOf "law" "law" (defArgs slaw) (defBody slaw) (defScope slaw) .none kV34 dc34 pm34 an34 cd34 ct34), sl34⟩) (d34 : PySem.W.codeIn K cd34 "law" = true) (k34 : PySem.W.keepIn K (.ref f34) = true)
    (mm0 : msgB K c0 = true)
    (tI : PySem.W.typeIn K (.ref c0) = some (.type "type"))
    (eII : PySem.W.exmOne K (.ref c0) (.ref c0) = some true)
    (nn : noneB K ["isinstance", "int", "bool", "str", "tuple", "len", "all", "any", "zip", "list", "set", "sorted", "range", "max", "min", "repr", "abs", "enumerate"] = true)
    (gL : PySem.W.nsIn K mainGlobals "MAX_LETTERS" = some (some (.int 8 tkL))) (gP : PySem.W.nsIn K mainGlobals "MAX_PLACES" = some (some (.int 30 tkP))) (gS : PySem.W.nsIn K mainGlobals "MAX_STEPS" = some (some (.int 40 tkT)))
    : ∃ fd : FuncData, (∀ (s : Shared) (v : Value), BindsTo s fd ⟨[v], []⟩ [("script", v)]) ∧ ∀ base : Heap, K.In base → base.Ns mainGlobals mg → FnG l.prog w K mg base CX0 9 fa fd ["script"] (spLaw K) := by
  have e := hfa.symm.trans (PySem.W.mg_of X G a34)
  cases e
  have z_isinstance : mg "isinstance" = none := PySem.W.mg_none_of X G (noneB_ok nn (by decide))
  have z_int : mg "int" = none := PySem.W.mg_none_of X G (noneB_ok nn (by decide))
  have z_bool : mg "bool" = none := PySem.W.mg_none_of X G (noneB_ok nn (by decide))
  have z_str : mg "str" = none := PySem.W.mg_none_of X G (noneB_ok nn (by decide))
  have z_tuple : mg "tuple" = none := PySem.W.mg_none_of X G (noneB_ok nn (by decide))
  have z_len : mg "len" = none := PySem.W.mg_none_of X G (noneB_ok nn (by decide))
  have z_all : mg "all" = none := PySem.W.mg_none_of X G (noneB_ok nn (by decide))
  have z_any : mg "any" = none := PySem.W.mg_none_of X G (noneB_ok nn (by decide))
  have z_zip : mg "zip" = none := PySem.W.mg_none_of X G (noneB_ok nn (by decide))
  have z_list : mg "list" = none := PySem.W.mg_none_of X G (noneB_ok nn (by decide))
  have z_set : mg "set" = none := PySem.W.mg_none_of X G (noneB_ok nn (by decide))
  have z_sorted : mg "sorted" = none := PySem.W.mg_none_of X G (noneB_ok nn (by decide))
  have z_range : mg "range" = none := PySem.W.mg_none_of X G (noneB_ok nn (by decide))
  have z_max : mg "max" = none := PySem.W.mg_none_of X G (noneB_ok nn (by decide))
  have z_min : mg "min" = none := PySem.W.mg_none_of X G (noneB_ok nn (by decide))
  have z_repr : mg "repr" = none := PySem.W.mg_none_of X G (noneB_ok nn (by decide))
  have z_abs : mg "abs" = none := PySem.W.mg_none_of X G (noneB_ok nn (by decide))
  have z_enumerate : mg "enumerate" = none := PySem.W.mg_none_of X G (noneB_ok nn (by decide))
  have g0 : mg "InvalidNet" = some (.ref c0) := PySem.W.mg_of X G aC0
  have F0 := fun_mk (st := sis_integer) l0 d0 k0
  have F1 := fun_mk (st := sis_integer_within) l1 d1 k1
  have F2 := fun_mk (st := sis_name) l2 d2 k2
  have F3 := fun_mk (st := sascends) l3 d3 k3
  have F4 := fun_mk (st := sare_places) l4 d4 k4
  have F5 := fun_mk (st := s_is_step) l5 d5 k5
  have F6 := fun_mk (st := sis_net) l6 d6 k6
  have F7 := fun_mk (st := scheck_net) l7 d7 k7
  have F8 := fun_mk (st := shave_common) l8 d8 k8
  have F9 := fun_mk (st := s_reached) l9 d9 k9
  have F10 := fun_mk (st := s_end_defects) l10 d10 k10
  have F11 := fun_mk (st := s_choice_defects) l11 d11 k11
  have F12 := fun_mk (st := s_path_defects) l12 d12 k12
  have F13 := fun_mk (st := s_all_defects) l13 d13 k13
  have F14 := fun_mk (st := sis_workflow) l14 d14 k14
  have F15 := fun_mk (st := snet_defects) l15 d15 k15
  have F16 := fun_mk (st := s_law_dice) l16 d16 k16
  have F17 := fun_mk (st := s_law_roll) l17 d17 k17
  have F18 := fun_mk (st := s_law_one_of) l18 d18 k18
  have F19 := fun_mk (st := s_law_mixed) l19 d19 k19
  have F20 := fun_mk (st := s_law_words) l20 d20 k20
  have F21 := fun_mk (st := s_law_any_net) l21 d21 k21
  have F22 := fun_mk (st := s_law_forward) l22 d22 k22
  have F23 := fun_mk (st := s_law_defects) l23 d23 k23
  have F24 := fun_mk (st := s_law_fitting) l24 d24 k24
  have F25 := fun_mk (st := s_law_grown) l25 d25 k25
  have F26 := fun_mk (st := s_law_spoilt) l26 d26 k26
  have F27 := fun_mk (st := s_law_net) l27 d27 k27
  have F28 := fun_mk (st := s_law_any_workflow) l28 d28 k28
  have F29 := fun_mk (st := s_law_backwards) l29 d29 k29
  have F30 := fun_mk (st := s_law_turned) l30 d30 k30
  have F31 := fun_mk (st := s_law_right) l31 d31 k31
  have F32 := fun_mk (st := s_law_refused) l32 d32 k32
  have F33 := fun_mk (st := s_law_written_right) l33 d33 k33
  have F34 := fun_mk (st := slaw) l34 d34 k34
  have b0 := F0.binds (ps := ["value"]) fun _ _ _ _ _ _ us hl => match us, hl with | [_], _ => rfl
  have b1 := F1.binds (ps := ["value", "least", "most"]) fun _ _ _ _ _ _ us hl => match us, hl with | [_, _, _], _ => rfl
  have b2 := F2.binds (ps := ["value"]) fun _ _ _ _ _ _ us hl => match us, hl with | [_], _ => rfl
  have b3 := F3.binds (ps := ["values"]) fun _ _ _ _ _ _ us hl => match us, hl with | [_], _ => rfl
  have b4 := F4.binds (ps := ["places", "value"]) fun _ _ _ _ _ _ us hl => match us, hl with | [_, _], _ => rfl
  have b5 := F5.binds (ps := ["places", "value"]) fun _ _ _ _ _ _ us hl => match us, hl with | [_, _], _ => rfl
  have b6 := F6.binds (ps := ["value"]) fun _ _ _ _ _ _ us hl => match us, hl with | [_], _ => rfl
  have b7 := F7.binds (ps := ["net"]) fun _ _ _ _ _ _ us hl => match us, hl with | [_], _ => rfl
  have b8 := F8.binds (ps := ["places", "others"]) fun _ _ _ _ _ _ us hl => match us, hl with | [_, _], _ => rfl
  have b9 := F9.binds (ps := ["steps", "begin"]) fun _ _ _ _ _ _ us hl => match us, hl with | [_, _], _ => rfl
  have b10 := F10.binds (ps := ["net"]) fun _ _ _ _ _ _ us hl => match us, hl with | [_], _ => rfl
  have b11 := F11.binds (ps := ["net"]) fun _ _ _ _ _ _ us hl => match us, hl with | [_], _ => rfl
  have b12 := F12.binds (ps := ["net"]) fun _ _ _ _ _ _ us hl => match us, hl with | [_], _ => rfl
  have b13 := F13.binds (ps := ["net"]) fun _ _ _ _ _ _ us hl => match us, hl with | [_], _ => rfl
  have b14 := F14.binds (ps := ["value"]) fun _ _ _ _ _ _ us hl => match us, hl with | [_], _ => rfl
  have b15 := F15.binds (ps := ["net"]) fun _ _ _ _ _ _ us hl => match us, hl with | [_], _ => rfl
  have b16 := F16.binds (ps := ["script", "at"]) fun _ _ _ _ _ _ us hl => match us, hl with | [_, _], _ => rfl
  have b17 := F17.binds (ps := ["dice", "total"]) fun _ _ _ _ _ _ us hl => match us, hl with | [_, _], _ => rfl
  have b18 := F18.binds (ps := ["dice", "items"]) fun _ _ _ _ _ _ us hl => match us, hl with | [_, _], _ => rfl
  have b19 := F19.binds (ps := ["dice", "items"]) fun _ _ _ _ _ _ us hl => match us, hl with | [_, _], _ => rfl
  have b20 := F20.binds (ps := ["dice", "total"]) fun _ _ _ _ _ _ us hl => match us, hl with | [_, _], _ => rfl
  have b21 := F21.binds (ps := ["dice", "total"]) fun _ _ _ _ _ _ us hl => match us, hl with | [_, _], _ => rfl
  have b22 := F22.binds (ps := ["edges", "begin"]) fun _ _ _ _ _ _ us hl => match us, hl with | [_, _], _ => rfl
  have b23 := F23.binds (ps := ["net"]) fun _ _ _ _ _ _ us hl => match us, hl with | [_], _ => rfl
  have b24 := F24.binds (ps := ["grown"]) fun _ _ _ _ _ _ us hl => match us, hl with | [_], _ => rfl
  have b25 := F25.binds (ps := ["dice", "turns"]) fun _ _ _ _ _ _ us hl => match us, hl with | [_, _], _ => rfl
  have b26 := F26.binds (ps := ["dice", "grown"]) fun _ _ _ _ _ _ us hl => match us, hl with | [_, _], _ => rfl
  have b27 := F27.binds (ps := ["dice", "grown"]) fun _ _ _ _ _ _ us hl => match us, hl with | [_, _], _ => rfl
  have b28 := F28.binds (ps := ["dice", "turns"]) fun _ _ _ _ _ _ us hl => match us, hl with | [_, _], _ => rfl
  have b29 := F29.binds (ps := ["net"]) fun _ _ _ _ _ _ us hl => match us, hl with | [_], _ => rfl
  have b30 := F30.binds (ps := ["defects"]) fun _ _ _ _ _ _ us hl => match us, hl with | [_], _ => rfl
  have b31 := F31.binds (ps := ["net"]) fun _ _ _ _ _ _ us hl => match us, hl with | [_], _ => rfl
  have b32 := F32.binds (ps := ["thing"]) fun _ _ _ _ _ _ us hl => match us, hl with | [_], _ => rfl
  have b33 := F33.binds (ps := []) fun _ _ _ _ _ _ us hl => match us, hl with | [], _ => rfl
  have b34 := F34.binds (ps := ["script"]) fun _ _ _ _ _ _ us hl => match us, hl with | [_], _ => rfl
  refine ⟨PySem.W.fnOf "law" "law" (defArgs slaw) (defBody slaw) (defScope slaw) .none kV34 dc34 pm34 an34 cd34 ct34, fun s v => .of_eq rfl, fun base _ _ => ?_⟩
  have TA : TxtA mg := ⟨z_isinstance, z_int, z_bool, z_str, z_tuple, z_len, z_all, z_zip, ⟨_, PySem.W.mg_of X G gL⟩, ⟨_, PySem.W.mg_of X G gP⟩, ⟨_, PySem.W.mg_of X G gS⟩⟩
  have TS : TxtS mg := ⟨z_set, z_sorted⟩
  have TX : TxtX mg := ⟨z_list, z_range, z_len⟩
  have TW : TxtW mg := ⟨z_range⟩
  have TT : Txt mg := ⟨z_len, z_abs, z_int, z_enumerate⟩
  have TN : TxtM2 mg := ⟨z_max, z_min⟩
  have E0 := msgB_ok mm0 g0
  have Oii : Own l.prog w K mg base CX0 "is_integer" 1 ["value"] (spT K isIntD) := ⟨_, _, ok_is_integer F0 TA, PySem.W.mg_of X G a0, k0, b0⟩
  have Oiw : Own l.prog w K mg base CX0 "is_integer_within" 2 ["value", "least", "most"] (spWithin K) := ⟨_, _, ok_is_integer_within F1 Oii, PySem.W.mg_of X G a1, k1, b1⟩
  have Onm : Own l.prog w K mg base CX0 "is_name" 1 ["value"] (spN K isNameD) := ⟨_, _, ok_is_name F2 TA, PySem.W.mg_of X G a2, k2, b2⟩
  have Oas : Own l.prog w K mg base CX0 "ascends" 1 ["values"] (spAsc K) := ⟨_, _, ok_ascends F3 TA, PySem.W.mg_of X G a3, k3, b3⟩
  have Oap : Own l.prog w K mg base CX0 "are_places" 3 ["places", "value"] (spPlaces K placesD) := ⟨_, _, ok_are_places F4 TA Oiw Oas, PySem.W.mg_of X G a4, k4, b4⟩
  have Ost : Own l.prog w K mg base CX0 "_is_step" 4 ["places", "value"] (spPlaces K stepD) := ⟨_, _, ok_is_step F5 TA Onm Oap, PySem.W.mg_of X G a5, k5, b5⟩
  have Ois : Own l.prog w K mg base CX0 "is_net" 5 ["value"] (spN K netD) := ⟨_, _, ok_is_net F6 TA Oiw Oas Ost, PySem.W.mg_of X G a6, k6, b6⟩
  have Hii : OwnI l.prog w K mg base "is_integer" 1 ["value"] (spT K isIntD) := ⟨_, _, hot_is_integer F0 TA, PySem.W.mg_of X G a0, k0, b0⟩
  have Hiw : OwnI l.prog w K mg base "is_integer_within" 2 ["value", "least", "most"] (spWithin K) := ⟨_, _, hot_is_integer_within F1 Hii, PySem.W.mg_of X G a1, k1, b1⟩
  have Hnm : OwnI l.prog w K mg base "is_name" 1 ["value"] (spN K isNameD) := ⟨_, _, hot_is_name F2 TA, PySem.W.mg_of X G a2, k2, b2⟩
  have Has : OwnI l.prog w K mg base "ascends" 1 ["values"] (spAsc K) := ⟨_, _, hot_ascends F3 TA, PySem.W.mg_of X G a3, k3, b3⟩
  have Hap : OwnI l.prog w K mg base "are_places" 3 ["places", "value"] (spPlaces K placesD) := ⟨_, _, hot_are_places F4 TA Hiw Has, PySem.W.mg_of X G a4, k4, b4⟩
  have Hst : OwnI l.prog w K mg base "_is_step" 4 ["places", "value"] (spPlaces K stepD) := ⟨_, _, hot_is_step F5 TA Hnm Hap, PySem.W.mg_of X G a5, k5, b5⟩
  have His : OwnI l.prog w K mg base "is_net" 5 ["value"] (spN K netD) := ⟨_, _, hot_is_net F6 TA Hiw Has Hst, PySem.W.mg_of X G a6, k6, b6⟩
  have Hwf : OwnI l.prog w K mg base "is_workflow" 6 ["value"] (spWfN K) := ⟨_, _, hot_is_workflow F14 His, PySem.W.mg_of X G a14, k14, b14⟩
  have Ock : Own l.prog w K mg base (L2.CX l.prog w) "check_net" 6 ["net"] (spChk K c0 netD) := ⟨_, _, ok_check_net F7 E0 tI Ois, PySem.W.mg_of X G a7, k7, b7⟩
  have Nck : Own l.prog w K mg base (L2N.CX l.prog w) "check_net" 6 ["net"] (spChk K c0 netD) := ⟨_, _, okN_check_net F7 E0 tI Ois, PySem.W.mg_of X G a7, k7, b7⟩
  have Ohc : Own l.prog w K mg base CX0 "have_common" 1 ["places", "others"] (spCommon K) := ⟨_, _, ok_have_common F8 z_any, PySem.W.mg_of X G a8, k8, b8⟩
  have OrT : Own l.prog w K mg base CX0 "_reached" 1 ["steps", "begin"] (spReachT K) := ⟨_, _, ok_reachedT F9, PySem.W.mg_of X G a9, k9, b9⟩
  have OrL : Own l.prog w K mg base CX0 "_reached" 1 ["steps", "begin"] (spReachL K) := ⟨_, _, ok_reachedL F9, PySem.W.mg_of X G a9, k9, b9⟩
  have Oed : Own l.prog w K mg base CX0 "_end_defects" 1 ["net"] (spRows K fun _ rows => startsL rows ++ endsL rows) := ⟨_, _, ok_end_defects F10, PySem.W.mg_of X G a10, k10, b10⟩
  have Ocd : Own l.prog w K mg base CX0 "_choice_defects" 2 ["net"] (spRows K fun _ rows => choicesL rows) := ⟨_, _, ok_choice_defects F11 z_enumerate Ohc, PySem.W.mg_of X G a11, k11, b11⟩
  have Opd : Own l.prog w K mg base CX0 "_path_defects" 2 ["net"] (spRows K fun n rows => placesL n rows ++ stepsL rows) := ⟨_, _, ok_path_defects F12 z_range Ohc OrT OrL, PySem.W.mg_of X G a12, k12, b12⟩
  have Oad : Own l.prog w K mg base CX0 "_all_defects" 3 ["net"] (spRows K allL) := ⟨_, _, ok_all_defects F13 Oed Ocd Opd, PySem.W.mg_of X G a13, k13, b13⟩
  have Owf : Own l.prog w K mg base CX0 "is_workflow" 6 ["value"] (spWf K) := ⟨_, _, ok_is_workflow F14 Ois Oad, PySem.W.mg_of X G a14, k14, b14⟩
  have Ond : Own l.prog w K mg base (L2.CX l.prog w) "net_defects" 7 ["net"] (spDefs K c0) := ⟨_, _, ok_net_defects F15 z_tuple z_sorted Ock Oad, PySem.W.mg_of X G a15, k15, b15⟩
  have Nnd : Own l.prog w K mg base (L2N.CX l.prog w) "net_defects" 7 ["net"] (spDefs K c0) := ⟨_, _, okN_net_defects F15 z_tuple z_sorted Nck Oad, PySem.W.mg_of X G a15, k15, b15⟩
  have Oro : Own l.prog w K mg base CX0 "_law_roll" 1 ["dice", "total"] spRoll := ⟨_, _, ok_roll F17, PySem.W.mg_of X G a17, k17, b17⟩
  have Ord : Own l.prog w K mg base CX0 "_law_roll" 1 ["dice", "total"] spRollD := ⟨_, _, (ok_roll F17).imp fun _ _ _ _ h => rollD h, PySem.W.mg_of X G a17, k17, b17⟩
  have Odi : Own l.prog w K mg base CX0 "_law_dice" 1 ["script", "at"] (spDice K) := ⟨_, _, ok_dice F16 TT, PySem.W.mg_of X G a16, k16, b16⟩
  have Oon : Own l.prog w K mg base CX0 "_law_one_of" 2 ["dice", "items"] spOneD := ⟨_, _, (ok_one_of F18 TT Oro).imp fun _ _ _ _ h => oneD h, PySem.W.mg_of X G a18, k18, b18⟩
  have Omi : Own l.prog w K mg base CX0 "_law_mixed" 2 ["dice", "items"] (spMixD K) := ⟨_, _, (ok_mixed F19 TX Oro).imp fun _ _ _ _ h => mixD h, PySem.W.mg_of X G a19, k19, b19⟩
  have Owo : Own l.prog w K mg base CX0 "_law_words" 2 ["dice", "total"] spWords := ⟨_, _, ok_words F20 TW Ord, PySem.W.mg_of X G a20, k20, b20⟩
  have Oan : Own l.prog w K mg base CX0 "_law_any_net" 3 ["dice", "total"] (spAny K) := ⟨_, _, ok_any_net F21 TA TS TX Ord Owo, PySem.W.mg_of X G a21, k21, b21⟩
  have Ofw : Own l.prog w K mg base CX0 "_law_forward" 1 ["edges", "begin"] (spFwd K) := ⟨_, _, ok_law_forward F22, PySem.W.mg_of X G a22, k22, b22⟩
  have Old : Own l.prog w K mg base CX0 "_law_defects" 2 ["net"] (spLdef K) := ⟨_, _, ok_law_defects F23 z_enumerate z_range z_tuple z_sorted Ofw, PySem.W.mg_of X G a23, k23, b23⟩
  have Ofi : Own l.prog w K mg base CX0 "_law_fitting" 1 ["grown"] spFit := ⟨_, _, ok_law_fitting F24 z_len, PySem.W.mg_of X G a24, k24, b24⟩
  have Ogr : Own l.prog w K mg base CX0 "_law_grown" 3 ["dice", "turns"] spGrown := ⟨_, _, ok_law_grown F25 TX Ord Oon, PySem.W.mg_of X G a25, k25, b25⟩
  have Osp : Own l.prog w K mg base CX0 "_law_spoilt" 3 ["dice", "grown"] spSpoilt := ⟨_, _, ok_law_spoilt F26 TX Ord Oon, PySem.W.mg_of X G a26, k26, b26⟩
  have One : Own l.prog w K mg base CX0 "_law_net" 3 ["dice", "grown"] (spNet K) := ⟨_, _, ok_law_net F27 TX TS z_tuple z_zip Omi Owo, PySem.W.mg_of X G a27, k27, b27⟩
  have Oaw : Own l.prog w K mg base CX0 "_law_any_workflow" 4 ["dice", "turns"] (spAw K) := ⟨_, _, ok_law_any_workflow F28 z_range Ord Ogr Ofi Osp One Old, PySem.W.mg_of X G a28, k28, b28⟩
  have Obk : Own l.prog w K mg base CX0 "_law_backwards" 1 ["net"] (spBack K) := ⟨_, _, ok_law_backwards F29 z_tuple z_sorted, PySem.W.mg_of X G a29, k29, b29⟩
  have Otu : Own l.prog w K mg base CX0 "_law_turned" 1 ["defects"] (spTurn K) := ⟨_, _, ok_law_turned F30 z_int z_sorted, PySem.W.mg_of X G a30, k30, b30⟩
  have Ori : Own l.prog w K mg base CX0 "_law_right" 8 ["net"] (spRight K) := ⟨_, _, ok_law_right F31 z_repr Ond Owf Old Obk Otu, PySem.W.mg_of X G a31, k31, b31⟩
  have Orf : Own l.prog w K mg base CX0 "_law_refused" 8 ["thing"] (spRefused K) := ⟨_, _, ok_law_refused F32 g0 eII Nnd Hwf, PySem.W.mg_of X G a32, k32, b32⟩
  have Owr : Own l.prog w K mg base CX0 "_law_written_right" 8 [] spWr := ⟨_, _, ok_law_written_right F33 Ond, PySem.W.mg_of X G a33, k33, b33⟩
  exact ok_law F34 TX TN Odi Ord Oan Oaw Ogr Ofi Osp One Ori Owr fun hr => law_rest hr TX Oon Orf
end K02

set_option Elab.async false
set_option linter.all false
open PySem PySem.W PyProof.Rows in
set_option maxRecDepth 100000 in
set_option maxHeartbeats 0 in
theorem PySem.Challenge.cw_caseflow_k02_whole_defects_by_paths_holds : PySem.Challenge.rw_caseflow_k02_whole_defects_by_paths.Holds := by
  w_on; o_law; k_head; (case hw => w_witness2)
  k_fill
  refine L2.walk_ofG (l := PySem.Challenge.rw_caseflow_k02_whole_defects_by_paths) (n := 63) (k := 9) (x := "script") (CX := fun _ => L2.CX0) (sp := fun w => K02.spLaw _) rfl (by decide) rfl ⟨rfl, by decide, by decide⟩ (fun w h Y => PySem.W.kIn_of Y) ?F (fun _ _ a ns hl _ hS => ⟨a, ns, rfl, hS, hl, fun _ _ => rfl⟩) fun _ _ _ _ _ z => z
  case F =>
    intro w mg fa h KX G hmg
    refine' K02.all_mk KX G hmg ?aC0 ?a0 ?l0 ?d0 ?k0 ?a1 ?l1 ?d1 ?k1 ?a2 ?l2 ?d2 ?k2 ?a3 ?l3 ?d3 ?k3 ?a4 ?l4 ?d4 ?k4 ?a5 ?l5 ?d5 ?k5 ?a6 ?l6 ?d6 ?k6 ?a7 ?l7 ?d7 ?k7 ?a8 ?l8 ?d8 ?k8 ?a9 ?l9 ?d9 ?k9 ?a10 ?l10 ?d10 ?k10 ?a11 ?l11 ?d11 ?k11 ?a12 ?l12 ?d12 ?k12 ?a13 ?l13 ?d13 ?k13 ?a14 ?l14 ?d14 ?k14 ?a15 ?l15 ?d15 ?k15 ?a16 ?l16 ?d16 ?k16 ?a17 ?l17 ?d17 ?k17 ?a18 ?l18 ?d18 ?k18 ?a19 ?l19 ?d19 ?k19 ?a20 ?l20 ?d20 ?k20 ?a21 ?l21 ?d21 ?k21 ?a22 ?l22 ?d22 ?k22 ?a23 ?l23 ?d23 ?k23 ?a24 ?l24 ?d24 ?k24 ?a25 ?l25 ?d25 ?k25 ?a26 ?l26 ?d26 ?k26 ?a27 ?l27 ?d27 ?k27 ?a28 ?l28 ?d28 ?k28 ?a29 ?l29 ?d29 ?k29 ?a30 ?l30 ?d30 ?k30 ?a31 ?l31 ?d31 ?k31 ?a32 ?l32 ?d32 ?k32 ?a33 ?l33 ?d33 ?k33 ?a34 ?l34 ?d34 ?k34 ?mm0 ?tI ?eII ?nn ?gL ?gP ?gS
    (case aC0 => k_is)
    (case a0 => k_is)
    (case l0 => k_is)
    (case d0 => k_is)
    (case k0 => k_is)
    (case a1 => k_is)
    (case l1 => k_is)
    (case d1 => k_is)
    (case k1 => k_is)
    (case a2 => k_is)
    (case l2 => k_is)
    (case d2 => k_is)
    (case k2 => k_is)
    (case a3 => k_is)
    (case l3 => k_is)
    (case d3 => k_is)
    (case k3 => k_is)
    (case a4 => k_is)
    (case l4 => k_is)
    (case d4 => k_is)
    (case k4 => k_is)
    (case a5 => k_is)
    (case l5 => k_is)
    (case d5 => k_is)
    (case k5 => k_is)
    (case a6 => k_is)
    (case l6 => k_is)
    (case d6 => k_is)
    (case k6 => k_is)
    (case a7 => k_is)
    (case l7 => k_is)
    (case d7 => k_is)
    (case k7 => k_is)
    (case a8 => k_is)
    (case l8 => k_is)
    (case d8 => k_is)
    (case k8 => k_is)
    (case a9 => k_is)
    (case l9 => k_is)
    (case d9 => k_is)
    (case k9 => k_is)
    (case a10 => k_is)
    (case l10 => k_is)
    (case d10 => k_is)
    (case k10 => k_is)
    (case a11 => k_is)
    (case l11 => k_is)
    (case d11 => k_is)
    (case k11 => k_is)
    (case a12 => k_is)
    (case l12 => k_is)
    (case d12 => k_is)
    (case k12 => k_is)
    (case a13 => k_is)
    (case l13 => k_is)
    (case d13 => k_is)
    (case k13 => k_is)
    (case a14 => k_is)
    (case l14 => k_is)
    (case d14 => k_is)
    (case k14 => k_is)
    (case a15 => k_is)
    (case l15 => k_is)
    (case d15 => k_is)
    (case k15 => k_is)
    (case a16 => k_is)
    (case l16 => k_is)
    (case d16 => k_is)
    (case k16 => k_is)
    (case a17 => k_is)
    (case l17 => k_is)
    (case d17 => k_is)
    (case k17 => k_is)
    (case a18 => k_is)
    (case l18 => k_is)
    (case d18 => k_is)
    (case k18 => k_is)
    (case a19 => k_is)
    (case l19 => k_is)
    (case d19 => k_is)
    (case k19 => k_is)
    (case a20 => k_is)
    (case l20 => k_is)
    (case d20 => k_is)
    (case k20 => k_is)
    (case a21 => k_is)
    (case l21 => k_is)
    (case d21 => k_is)
    (case k21 => k_is)
    (case a22 => k_is)
    (case l22 => k_is)
    (case d22 => k_is)
    (case k22 => k_is)
    (case a23 => k_is)
    (case l23 => k_is)
    (case d23 => k_is)
    (case k23 => k_is)
    (case a24 => k_is)
    (case l24 => k_is)
    (case d24 => k_is)
    (case k24 => k_is)
    (case a25 => k_is)
    (case l25 => k_is)
    (case d25 => k_is)
    (case k25 => k_is)
    (case a26 => k_is)
    (case l26 => k_is)
    (case d26 => k_is)
    (case k26 => k_is)
    (case a27 => k_is)
    (case l27 => k_is)
    (case d27 => k_is)
    (case k27 => k_is)
    (case a28 => k_is)
    (case l28 => k_is)
    (case d28 => k_is)
    (case k28 => k_is)
    (case a29 => k_is)
    (case l29 => k_is)
    (case d29 => k_is)
    (case k29 => k_is)
    (case a30 => k_is)
    (case l30 => k_is)
    (case d30 => k_is)
    (case k30 => k_is)
    (case a31 => k_is)
    (case l31 => k_is)
    (case d31 => k_is)
    (case k31 => k_is)
    (case a32 => k_is)
    (case l32 => k_is)
    (case d32 => k_is)
    (case k32 => k_is)
    (case a33 => k_is)
    (case l33 => k_is)
    (case d33 => k_is)
    (case k33 => k_is)
    (case a34 => k_is)
    (case l34 => k_is)
    (case d34 => k_is)
    (case k34 => k_is)
    (case mm0 => kernel_rfl)
    (case tI => k_is)
    (case eII => kernel_rfl)
    (case nn => kernel_rfl)
    (case gL => k_is)
    (case gP => k_is)
    (case gS => k_is)

