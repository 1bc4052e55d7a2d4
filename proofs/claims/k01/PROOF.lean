import PyProof.Rows.All
import Wide.All
import OpenK.AllK
import Wide.FinOn
import PyProof.EqAt
import PyProof.EqKinds
import PyProof.TupleCall
import HandS.Base
import HandS.Call
import HandS.List
import HandS.Ends
import HandS.Exc
import HandS.TryOnly
import HandS.ExcOwn
import HandS.Words
import HandS.WordsList
import HandS.ForMost
import HandS.WordsExc
import HandS.Wide
import HandS.TupAny
import HandS.IsInst
import HandS.ExcInit
import HandS.ExcValue
import HandS.ExcIs
import HandS.ExcField
import HandS.TryMany
import HandS.RaiseMore
import HandS.NoneIn
import KE.KExcInit
import KE.KExcIs
import KE.KExcStr
import PyProof.Rows.FactsExc_KeyError
import HandS.ExcCtx
import HandS.Walk
import HandS.Zip
import HandS.Text
import PyProof.FactsAll.dict_1
import PyProof.FactsAll.subtypes_3
import PyProof.FactsAll.subtypes_4
import HandS.EndTab
import HandS.HeadWalk
import HandS.SetFor
import HandS.Strs
import HandS.Star
import KE.SortData
import HandS.Sort
import HandS.Style
import HandS.More
import PyProof.Rows.StrRev
import PyProof.Rows.StrCase
import KE.KNest
import PySem.Challenge.RW_caseflow_k01_nets_made_and_known
import HandS.DictComp
import HandS.Replace
import KE.DatumOrd
import PyProof.Rows.ReprOcc
import HandS.Dict
set_option Elab.async false
set_option linter.all false
set_option maxRecDepth 100000
set_option maxHeartbeats 2000000
/-! Calls where no repr is under way: the promise of a def FnG (as FnOk, with the guards known), its call, the end of a law. -/
namespace L2
open PySem PySem.Spec PyProof.Rows

structure RoomG (k : Nat) (A : Around) : Prop where
  r : Room k A
  g : A.guards = some []
theorem RoomG.mono {j k : Nat} {A : Around} (r : RoomG k A) (h : j ≤ k) : RoomG j A := ⟨r.r.mono h, r.g⟩
theorem RoomG.deeper {k : Nat} {A : Around} (r : RoomG (k + 1) A) (env : Env) : RoomG k (A.deeper env) := ⟨r.r.deeper env, r.g⟩

structure FnG (P : Program) (w : World) (K : PySem.W.Frag) (mg : Str → Option Value) (base : Heap) (CX : CXT) (k : Nat) (f : Addr) (fd : FuncData) (ps : List Str) (sp : Sp) : Prop where
  len : ∀ vs H Q E, sp vs H Q E → vs.length = ps.length
  run : ∀ (A : Around) (outer : List Env) (s : Shared) (H : Hp) (args : Args) (us : List Value) (vs : List V) (Q : VK) (E : XK), RoomG k A → Env0 P w K mg base A outer s H → BindsTo s fd args (ps.zip us) → Vals vs us → sp vs H Q E →
    codeAny (model P w) A (.call (.ref f) args) (CR CX outer P w H s Q E) s
theorem FnG.of {P : Program} {w : World} {K : PySem.W.Frag} {mg : Str → Option Value} {base : Heap} {CX : CXT} {k : Nat} {f : Addr} {fd : FuncData} {ps : List Str} {sp : Sp} (F : FnOk P w K mg base CX k f fd ps sp) : FnG P w K mg base CX k f fd ps sp :=
  ⟨F.len, fun A outer s H args us vs Q E hr => F.run A outer s H args us vs Q E hr.r⟩
theorem FnG.mono {P : Program} {w : World} {K : PySem.W.Frag} {mg : Str → Option Value} {base : Heap} {CX : CXT} {j k : Nat} {f : Addr} {fd : FuncData} {ps : List Str} {sp : Sp} (F : FnG P w K mg base CX j f fd ps sp) (h : j ≤ k) :
    FnG P w K mg base CX k f fd ps sp := ⟨F.len, fun A outer s H args us vs Q E hr => F.run A outer s H args us vs Q E (hr.mono h)⟩

section
variable {X : Cx} {CX : CXT} {k : Nat} {f C : Addr} {fd : FuncData} {ps : List Str} {sp : Sp} {dvs : List V} {ds : List Value} {E : XK} {x m : Str} {p pos apos : Pos} {e o : Expr} {es : List Expr} {ta : TE} {t : TA}
theorem run_fnG {pins : List (Addr × Obj)} {σ : St} {H : Hp} {s : Shared} {Q : VK} {us : List Value} {vs : List V} (F : FnG X.prog X.w X.K X.mg X.base CX k f fd ps sp) (hr : RoomG k X.A) (hb : Binds X.K fd ps ds) (hd : Vals dvs ds) (hx : Passes CX X E)
    (I : Inv X pins σ H s) (r : Vals vs us) (h : sp (vs ++ dvs) H Q E) : wpAny (model X.prog X.w) X.A (call (.ref f) us) (EP X pins σ Q) X.xe s := by
  have r2 : Vals (vs ++ dvs) (us ++ ds) := r.append hd
  have hl : (us ++ ds).length = ps.length := by rw [← r2.length]; exact F.len _ _ _ _ h
  refine wpAny_call (codeAny_mono (F.run X.A X.stack s H ⟨us, []⟩ (us ++ ds) (vs ++ dvs) Q E hr I.env0 (hb s us I.kIn hl) r2 h) fun r s' hq => ?_)
  cases r with
  | error e => exact hx pins σ H s e s' I hq
  | ok fl =>
    cases fl with
    | ret u => exact I.after hq
    | next => exact False.elim hq
    | brk => exact False.elim hq
    | cont => exact False.elim hq
theorem pe_callG (F : FnG X.prog X.w X.K X.mg X.base CX k f fd ps sp) (hr : RoomG k X.A) (hg : Gl X x) (hm : X.mg x = some (.ref f)) (hk : PySem.W.keepIn X.K (.ref f) = true) (hb : Binds X.K fd ps ds) (hd : Vals dvs ds) (hx : Passes CX X E)
    (ha : PA X (e :: es) t) (hdb : (x == ("__debug__" : Str)) = false := by decide) (he : starEach (e :: es) X.env = (false, eval e X.env) :: starEach es X.env := by rfl) (hpl : (backTo pos (starEach es X.env)).any (·.1) = false := by rfl) :
    PE X (.Call (.Name x p) (e :: es) [] pos) (tCall sp dvs E t) := by
  refine ⟨fun pins s σ H Q I h => ?_⟩
  refine wpAny_Call_Name_kw (ld_glob I hg hm ?_ hdb)
  refine PySem.W.callWith_K (h₀ := X.base) I.ok.mod.kin hk (thn (ha.run pos pins s σ H _ I h) fun us s1 ⟨vs, H1, I1, r, q⟩ => ⟨I1.kIn, ?_⟩) he hpl
  exact run_fnG F hr hb hd hx I1 r q
theorem pe_call0G (F : FnG X.prog X.w X.K X.mg X.base CX k f fd ps sp) (hr : RoomG k X.A) (hg : Gl X x) (hm : X.mg x = some (.ref f)) (hk : PySem.W.keepIn X.K (.ref f) = true) (hb : Binds X.K fd ps ds) (hd : Vals dvs ds) (hx : Passes CX X E)
    (hdb : (x == ("__debug__" : Str)) = false := by decide) : PE X (.Call (.Name x p) [] [] pos) (tCall sp dvs E tNil) := by
  refine ⟨fun pins s σ H Q I h => ?_⟩
  refine wpAny_Call_Name_kw (ld_glob I hg hm ?_ hdb)
  exact PySem.W.callWith_K0 I.kIn hk (run_fnG (us := []) F hr hb hd hx I .nil h)
end

theorem fn_ofG {CX : CXT} {P : Program} {w : World} {K : PySem.W.Frag} {mg : Str → Option Value} {base : Heap} {k : Nat} {f : Addr} {name qual : Str} {params : Arguments} {body : List Stmt} {scope : Scope} {dV kV doc pm cdv ct oc : Value} {an od : Option Addr}
    {osl : Array (Option Value)} {N ps : List Str} {sp : Sp} (lk : K.lookup f = some ⟨oc, od, .func (PySem.W.fnOf name qual params body scope dV kV doc pm an cdv ct), osl⟩) (hcd : PySem.W.codeIn K cdv qual = true) (S : FnScope N ps scope)
    (len : ∀ vs H Q E, sp vs H Q E → vs.length = ps.length)
    (hbody : ∀ (A : Around) (outer : List Env) (s : Shared) (H : Hp) (vs : List V) (Q : VK) (E : XK), RoomG k (A.deeper (envOfC qual scope s.heap.objs.size f cdv)) → sp vs H Q E →
      ∃ t, PSs (cxOf CX P w K mg base N qual scope f cdv A outer s H E) body t ∧ t { nx := fun _ H' => Q .non H', rt := Q } (start N vs) H) :
    FnG P w K mg base CX (k + 1) f (PySem.W.fnOf name qual params body scope dV kV doc pm an cdv ct) ps sp := by
  refine ⟨len, fun A outer s H args us vs Q E hr e0 hb r hsp => ?_⟩
  have hl := len _ _ _ _ hsp
  have KX : K.In s.heap := e0.mod.kin.keeps fun b o e => (e0.bs b o e).1
  have lim : s.heap.NoLimit := e0.mod.nolimit.keeps fun b o e => (e0.bs b o e).1
  have hkind : ∀ y ∈ ps.zip us, scope.names.lookup y.1 = some .local ∨ (scope.names.lookup y.1 = some .cell ∧ ((cellsFrom (s.heap.objs.size + 1) scope.names []).lookup y.1).isSome = true) := fun ⟨n, v⟩ hy => by
    rcases S.par n (List.of_mem_zip hy).1 with q | q
    · exact .inl q
    · exact .inr ⟨q, PySem.W.cellsFrom_some _ _ _ (.inl q)⟩
  refine codeAny_call_function hr.r.depth (KX _ _ lk) rfl S.co S.gen rfl (PySem.W.codeRec_of KX hcd) (hb _ _ _ _ ?_)
  refine wpAny_newFunctionEnv_cells S.kind hkind fun env he s1 x => ?_
  subst he
  refine ⟨lim.keeps x.toInCall.keep, codeAny_func ?_⟩
  obtain ⟨t, ht, hq⟩ := hbody A outer s H vs Q E (hr.deeper _) hsp
  have I : Inv (cxOf CX P w K mg base N qual scope f cdv A outer s H E) [] (start N vs) H s1 := inv_start S hr.r.hd e0 hl r x
  refine wpAny_mono (ht.run [] s1 (start N vs) H _ I hq) (fun fl s' hs => ?_) fun e s' hs => hs
  have fin : ∀ {σ' : St} {H' : Hp} {v : V} {u : Value}, Inv (cxOf CX P w K mg base N qual scope f cdv A outer s H E) [] σ' H' s' → RelV v u → Q v H' → CE outer P w H s Q u s' :=
    fun {σ' H' v u} J rv q => ⟨v, H', J.os, J.bare, J.base, J.hok, rv, q⟩
  cases fl with
  | ret u =>
    obtain ⟨v, σ', H', J, rv, q⟩ := hs
    exact fin J rv q
  | next =>
    obtain ⟨σ', H', J, q⟩ := hs
    exact fin (v := V.non) (u := Value.none) J rfl q
  | brk =>
    obtain ⟨_, _, _, q⟩ := hs
    exact False.elim q
  | cont =>
    obtain ⟨_, _, _, q⟩ := hs
    exact False.elim q

section
variable {P : Program} {w : World} {K : PySem.W.Frag} {mg : Str → Option Value} {base : Heap}
theorem okG {x qual : Str} {st : Stmt} {f : Addr} {fd : FuncData} {N ps : List Str} {k : Nat} {sp : Sp} (F : Fun K x qual st f fd) (S : FnScope N ps (defScope st)) (len : ∀ vs H Q E, sp vs H Q E → vs.length = ps.length)
    (hbody : ∀ (cdv : Value) (A : Around) (outer : List Env) (s : Shared) (H : Hp) (vs : List V) (Q : VK) (E : XK), RoomG k (A.deeper (envOfC qual (defScope st) s.heap.objs.size f cdv)) → sp vs H Q E →
      ∃ t, PSs (cxOf CX0 P w K mg base N qual (defScope st) f cdv A outer s H E).nox (defBody st) t ∧ t { nx := fun _ H' => Q .non H', rt := Q } (start N vs) H) : FnG P w K mg base CX0 (k + 1) f fd ps sp := by
  obtain ⟨oc, od, kV, doc, pm, an, cdv, ct, osl, rfl, lk, hcd⟩ := F.ex
  refine fn_ofG lk hcd S len fun A outer s H vs Q E hr hsp => ?_
  obtain ⟨t, h, q⟩ := hbody cdv A outer s H vs Q E hr hsp
  exact ⟨t, h.nox, q⟩
theorem okGX {x qual : Str} {st : Stmt} {f : Addr} {fd : FuncData} {N ps : List Str} {k : Nat} {sp : Sp} (F : Fun K x qual st f fd) (S : FnScope N ps (defScope st)) (len : ∀ vs H Q E, sp vs H Q E → vs.length = ps.length)
    (hbody : ∀ (cdv : Value) (A : Around) (outer : List Env) (s : Shared) (H : Hp) (vs : List V) (Q : VK) (E : XK), RoomG k (A.deeper (envOfC qual (defScope st) s.heap.objs.size f cdv)) → sp vs H Q E →
      ∃ t, PSs (cxOf (L2.CX P w) P w K mg base N qual (defScope st) f cdv A outer s H E) (defBody st) t ∧ t { nx := fun _ H' => Q .non H', rt := Q } (start N vs) H) : FnG P w K mg base (L2.CX P w) (k + 1) f fd ps sp := by
  obtain ⟨oc, od, kV, doc, pm, an, cdv, ct, osl, rfl, lk, hcd⟩ := F.ex
  exact fn_ofG lk hcd S len fun A outer s H vs Q E hr hsp => hbody cdv A outer s H vs Q E hr hsp
end

theorem law_callG {P : Program} {w : World} {K : PySem.W.Frag} {mg mb : Str → Option Value} {CX : CXT} {k : Nat} {fa a : Addr} {fd : FuncData} {x : Str} {sp : Sp} {s₁ : Shared} {vs : List Value} {ns : List Int}
    (KX : K.In s₁.heap) (hns : s₁.heap.Ns mainGlobals mg) (hb : s₁.heap.Ns builtinsNs mb) (hbb : ∀ x : Str, x ≠ "__name__" → mb x = bootBuiltins x) (hlim : s₁.heap.NoLimit) (hg : s₁.gens = #[])
    (ha : s₁.heap.get? a = some { cls := .type "list", data := .seq vs.toArray }) (hi : IntsAre vs ns) (hl : ns.length ≤ sizeLine) (hr : Room k callerA)
    (F : ∀ base : Heap, K.In base → base.Ns mainGlobals mg → FnG P w K mg base CX k fa fd [x] sp) (hbind : ∀ (s : Shared) (u : Value), BindsTo s fd ⟨[u], []⟩ [(x, u)])
    (hsp : ∀ H : Hp, Only H → SqL K H a (ns.map V.int) → sp [.ref a] H (fun v _ => v = .bl true) fun _ _ _ => False)
    (hCX : ∀ H e s', CX [] H s₁ (fun _ _ _ => False) e s' → False) :
    codeAny (model P w) callerA (.call (.ref fa) ⟨[.ref a], []⟩) (fun r s' => r = .ok (.ret (.bool true)) ∧ OldK s₁.heap s'.heap ∧ s'.os = s₁.os ∧ AllBare s'.gens) s₁ := by
  have rv := vals_ints hi
  have lenV := hi.length
  have core : ∀ H : Hp, Only H → SqL K H a (ns.map V.int) → HOk P w H s₁.heap → (∀ b, H b ≠ none → b = a) → (H a ≠ none → K.lookup a = none) →
      codeAny (model P w) callerA (.call (.ref fa) ⟨[.ref a], []⟩) (fun r s' => r = .ok (.ret (.bool true)) ∧ OldK s₁.heap s'.heap ∧ s'.os = s₁.os ∧ AllBare s'.gens) s₁ := by
    intro H hO hS hok hA hK
    have base_of : ∀ {b : Addr} {o : Obj}, s₁.heap.get? b = some o → H b = none → (hidT s₁.heap H).get? b = some o := fun e n => hidT_get e n
    have noA : ∀ {b : Addr} {o : Obj} {es : Array DictEntry} {ep : Nat}, s₁.heap.get? b = some o → o.data = .dict es ep → H b = none := fun {b o es ep} e d => by
      cases q : H b with
      | none => rfl
      | some u =>
        have e' : b = a := hA b (by rw [q]; simp)
        subst e'
        rw [ha] at e; cases e
        have d' : Data.seq vs.toArray _ = Data.dict es ep := d
        cases d'
    have nsK : ∀ {b : Addr} {m : Str → Option Value}, s₁.heap.Ns b m → (hidT s₁.heap H).Ns b m := fun {b m} ⟨o, es, ep, e, d, r⟩ => ⟨o, es, ep, base_of e (noA e d), d, r⟩
    have hKb : K.In (hidT s₁.heap H) := fun b o e => base_of (KX b o e) (by
      cases q : H b with
      | none => rfl
      | some u =>
        have e' : b = a := hA b (by rw [q]; simp)
        subst e'
        rw [hK (by rw [q]; simp)] at e; cases e)
    have hM : Mod K mg (hidT s₁.heap H) := ⟨hKb, nsK hns, ⟨mb, nsK hb, hbb⟩, let ⟨mc, h1, h2⟩ := hlim; ⟨mc, nsK h1, h2⟩⟩
    have e0 : Env0 P w K mg (hidT s₁.heap H) callerA [] s₁ H := ⟨rfl, hM, fun b o e => of_hidT e, Nat.le_of_eq (hidT_size _ _), trivial, fun b hb => absurd (show b ∈ ([] : List Addr) from hb) (by simp), hok, .of_eq hg⟩
    refine codeAny_mono ((F _ hKb (nsK hns)).run callerA [] s₁ H ⟨[.ref a], []⟩ [.ref a] [.ref a] _ _ ⟨hr, rfl⟩ e0 (hbind s₁ (.ref a)) (.cons rfl .nil) (hsp H hO hS)) fun r s' h => ?_
    cases r with
    | error e => exact (hCX H e s' h).elim
    | ok fl =>
      cases fl with
      | next => exact False.elim h
      | brk => exact False.elim h
      | cont => exact False.elim h
      | ret u =>
        obtain ⟨v, H', os, bare, un, hok', r', q⟩ := h
        have q' : v = .bl true := q
        subst q'
        obtain rfl : u = Value.bool true := r'
        refine ⟨rfl, OldK.of_keep fun b o e => ?_, os, bare⟩
        cases q : H b with
        | none => exact un.keep b o e q (by intro z; exact absurd (show b ∈ ([] : List Addr) from z) (by simp)) (by simp)
        | some u =>
          rcases hO b with z | ⟨ob, xs, z⟩
          · rw [q] at z; cases z
          · have z2 := un.frzs b ob _ z
            obtain ⟨e1, _⟩ := hok b _ z
            obtain ⟨e2, _⟩ := hok' b _ z2
            rw [e] at e1; cases e1
            exact e2
  cases hk : K.lookup a with
  | some o =>
    have e := KX a o hk
    rw [ha] at e
    cases e
    refine core (fun _ => none) (fun _ => .inl rfl) (.inr ⟨_, vs.toArray, _, hk, rfl, rfl, rfl, by rw [List.size_toArray, lenV]; exact hl, by simpa using rv⟩) (fun b u z => by have z' : (none : Option HO) = some u := z; cases z') (fun b z => absurd rfl z) fun z => absurd rfl z
  | none =>
    refine core (fun b => if b = a then some (.frz { cls := .type "list", data := .seq vs.toArray } (.lst (ns.map V.int))) else none) (fun b => ?_) (.inl (.inr ⟨{ cls := .type "list", data := .seq vs.toArray }, if_pos rfl⟩)) (fun b u z => ?_) (fun b z => ?_) fun _ => hk
    · by_cases hb : b = a
      · exact .inr ⟨_, _, if_pos hb⟩
      · exact .inl (if_neg hb)
    · by_cases hb : b = a
      · have z' := (if_pos hb).symm.trans z
        cases z'
        subst hb
        exact ⟨ha, by rw [List.length_map]; exact hl, vs, _, rv, ha⟩
      · have z' := (if_neg hb).symm.trans z
        cases z'
    · by_cases hb : b = a
      · exact hb
      · exact absurd (if_neg hb) z
theorem walk_ofG {l : PySem.W.OpenLaw} {n k : Nat} {q : Program} {loose : List Str} {XP : (Str → Option Value) → Heap → Prop} {YP : World → Heap → Prop} {d : DefRec} {K : Params → PySem.W.Frag} {CX : World → CXT} {sp : World → Sp} {x : Str}
    (hn : l.most = some n) (hn2 : n ≤ sizeLine) (hdf : d.params.defaults = []) (hr : Room k callerA)
    (hY : ∀ (w : World) (h : Heap), YP w h → (K w.params).In h)
    (F : ∀ (w : World) (mg : Str → Option Value) (fa : Addr) (h : Heap), (K w.params).In h → h.Ns mainGlobals mg → mg d.name = some (.ref fa) →
      ∃ fd : FuncData, (∀ (s : Shared) (u : Value), BindsTo s fd ⟨[u], []⟩ [(x, u)]) ∧
        ∀ base : Heap, (K w.params).In base → base.Ns mainGlobals mg → FnG l.prog w (K w.params) mg base (CX w) k fa fd [x] (sp w))
    (hsp : ∀ (w : World) (H : Hp) (a : Addr) (ns : List Int), ns.length ≤ n → Only H → SqL (K w.params) H a (ns.map V.int) → sp w [.ref a] H (fun v _ => v = .bl true) fun _ _ _ => False)
    (hCX : ∀ (w : World) (H : Hp) (s : Shared) (e : Value) (s' : Shared), CX w [] H s (fun _ _ _ => False) e s' → False) :
    PySem.W.WalkO q loose XP YP l.row.toRowW d [] (fun f vs => PySem.call f vs) := by
  refine Att.attach_call hn hdf fun w s₀ s₁ mg mb fa o pm cd doc a vs ns G Y ho hd hcd hmg hobj hints hlen hg => ?_
  have KX := hY w _ Y
  obtain ⟨fd, hb, hF⟩ := F w mg fa _ KX G.T.g hmg
  exact law_callG KX G.T.g G.T.b G.T.builtins G.T.nolimit hg hobj hints (Nat.le_trans hlen hn2) hr hF hb (fun H hO hS => hsp w H a ns hlen hO hS) fun H e s' => hCX w H s₁ e s'
end L2

set_option Elab.async false
set_option linter.all false
set_option maxRecDepth 100000
set_option maxHeartbeats 2000000
/-! Readings that compute: each operation told by its values. -/
namespace L2
open PySem PySem.Spec PyProof.Rows

theorem OpR.imp {X : Cx} {f : Value → Value → Sem Value} {r r' : R2} (h : OpR X f r) (k : ∀ x y H Q, r' x y H Q → r x y H Q) : OpR X f r' := fun pins s σ H x y v u Q I rx ry q => h pins s σ H x y v u Q I rx ry (k x y H Q q)
theorem PE.imp {X : Cx} {e : Expr} {t t' : TE} (h : PE X e t) (k : ∀ σ H Q, t' σ H Q → t σ H Q) : PE X e t' := ⟨fun pins s σ H Q I q => h.run pins s σ H Q I (k σ H Q q)⟩
theorem PT.imp {X : Cx} {e : Expr} {t t' : TT} (h : PT X e t) (k : ∀ σ H Q, t' σ H Q → t σ H Q) : PT X e t' := ⟨fun pins s σ H Q I q => h.run pins s σ H Q I (k σ H Q q)⟩
theorem CallR.imp {X : Cx} {f : Value} {r r' : List V → Hp → VK → Prop} (h : CallR X f r) (k : ∀ xs H Q, r' xs H Q → r xs H Q) : CallR X f r' := fun pins s σ H xs us Q I rx q => h pins s σ H xs us Q I rx (k xs H Q q)

/-! ### names -/
def aVar (i : Nat) : TE := fun σ H Q => match σ[i]? with | some (some v) => Q v H | _ => False
theorem av {X : Cx} (i : Nat) {x : Str} {pos : Pos} (hN : X.N[i]? = some x := by rfl) (hv : Vis X.env.scope x := by first | exact Or.inl rfl | exact Or.inr (Or.inl rfl) | exact Or.inr (Or.inr rfl)) (hd : (x == ("__debug__" : Str)) = false := by decide)
    (hcd : (x == ("__classdict__" : Str)) = false := by decide) : PE X (.Name x pos) (aVar i) :=
  (pe_var hN hv hd hcd).imp fun σ H Q h => by
    unfold aVar at h
    split at h
    · rename_i v e
      exact ⟨v, e, h⟩
    · exact h.elim

/-! ### two-place operations -/
def rAddA (K : PySem.W.Frag) : R2 := fun x y H Q => match x, y with
  | .int i, .int j => Q (.int (i + j)) H
  | .int i, .bl k => Q (.int (i + b2i k)) H
  | .str a, .str b => a.length + b.length ≤ sizeLine ∧ Q (.str (a ++ b)) H
  | .ref a, .ref b => rCat (.ref a) (.ref b) H Q ∨ rCatA K (.ref a) (.ref b) H Q
  | _, _ => False
theorem op_addA {X : Cx} : OpR X (binaryOp .Add) (rAddA X.K) := by
  intro pins s σ H x y v u Q I rx ry h
  cases x <;> cases y <;> first
    | exact h.elim
    | exact op_add pins s σ H _ _ v u Q I rx ry ⟨_, _, rfl, rfl, h⟩
    | exact op_add_ib pins s σ H _ _ v u Q I rx ry ⟨_, _, rfl, rfl, h⟩
    | exact op_add_str pins s σ H _ _ v u Q I rx ry ⟨_, _, rfl, rfl, h.1, h.2⟩
    | (rcases h with h | h
       · exact op_cat pins s σ H _ _ v u Q I rx ry h
       · exact op_catA pins s σ H _ _ v u Q I rx ry h)
def rSubA : R2 := fun x y H Q => match x, y with
  | .int i, .int j => Q (.int (i - j)) H
  | _, _ => False
theorem op_subA {X : Cx} : OpR X (binaryOp .Sub) rSubA := by
  intro pins s σ H x y v u Q I rx ry h
  cases x <;> cases y <;> first
    | exact h.elim
    | exact op_sub pins s σ H _ _ v u Q I rx ry ⟨_, _, rfl, rfl, h⟩
/-- *: of ints, one side below 2 ^ 64; a list, a tuple by a number -/
def rMulA : R2 := fun x y H Q => match x, y with
  | .int i, .int j => CMul i j ∧ Q (.int (i * j)) H
  | .ref a, .int k => rRep (.ref a) (.int k) H Q
  | _, _ => False
theorem op_mulA {X : Cx} : OpR X (binaryOp .Mult) rMulA := by
  intro pins s σ H x y v u Q I rx ry h
  cases x <;> cases y <;> first
    | exact h.elim
    | exact op_mul pins s σ H _ _ v u Q I rx ry ⟨_, _, rfl, rfl, h.1, h.2⟩
    | exact op_rep pins s σ H _ _ v u Q I rx ry h
/-- %, // by a positive divisor (below 2 ^ 9000) -/
def rModA : R2 := fun x y H Q => match x, y with
  | .int i, .int j => 0 < j ∧ Q (.int (i % j)) H
  | _, _ => False
theorem op_modA {X : Cx} : OpR X (binaryOp .Mod) rModA := by
  intro pins s σ H x y v u Q I rx ry h
  cases x <;> cases y <;> first
    | exact h.elim
    | exact op_mod pins s σ H _ _ v u Q I rx ry ⟨_, _, rfl, rfl, h.1, h.2⟩
def rFdvA : R2 := fun x y H Q => match x, y with
  | .int i, .int j => CDivW i j ∧ Q (.int (i / j)) H
  | _, _ => False
theorem op_fdvA {X : Cx} : OpR X (binaryOp .FloorDiv) rFdvA := by
  intro pins s σ H x y v u Q I rx ry h
  cases x <;> cases y <;> first
    | exact h.elim
    | exact op_fdivW pins s σ H _ _ v u Q I rx ry ⟨_, _, rfl, rfl, h.1, h.2⟩
def rPowA : R2 := fun x y H Q => match x, y with
  | .int i, .int j => (0 ≤ j ∧ (Builtin.Int.intBits i : Int) * j ≤ 2 ^ 27) ∧ Q (.int (i ^ j.toNat)) H
  | _, _ => False
theorem op_powA {X : Cx} : OpR X (binaryOp .Pow) rPowA := by
  intro pins s σ H x y v u Q I rx ry h
  cases x <;> cases y <;> first
    | exact h.elim
    | (obtain ⟨⟨h1, h2⟩, q⟩ := h
       obtain ⟨t, rfl⟩ := rx
       obtain ⟨t', rfl⟩ := ry
       exact pow_int h1 h2 ⟨.int _, H, I.tok _, ⟨_, rfl⟩, q⟩)

/-! ### comparisons -/
def rCmpI (p : Int → Int → Bool) : R2 := fun x y H Q => match x, y with
  | .int i, .int j => Q (.bl (p i j)) H
  | _, _ => False
theorem op_ltA {X : Cx} : OpR X (compareOp .Lt) (rCmpI fun i j => decide (i < j)) := by
  intro pins s σ H x y v u Q I rx ry h
  cases x <;> cases y <;> first
    | exact h.elim
    | exact op_lt pins s σ H _ _ v u Q I rx ry ⟨_, _, rfl, rfl, h⟩
theorem op_leA {X : Cx} : OpR X (compareOp .LtE) (rCmpI fun i j => decide (i ≤ j)) := by
  intro pins s σ H x y v u Q I rx ry h
  cases x <;> cases y <;> first
    | exact h.elim
    | exact op_le pins s σ H _ _ v u Q I rx ry ⟨_, _, rfl, rfl, h⟩
theorem op_gtA {X : Cx} : OpR X (compareOp .Gt) (rCmpI fun i j => decide (j < i)) := by
  intro pins s σ H x y v u Q I rx ry h
  cases x <;> cases y <;> first
    | exact h.elim
    | exact op_gt pins s σ H _ _ v u Q I rx ry ⟨_, _, rfl, rfl, h⟩
theorem op_geA {X : Cx} : OpR X (compareOp .GtE) (rCmpI fun i j => decide (j ≤ i)) := by
  intro pins s σ H x y v u Q I rx ry h
  cases x <;> cases y <;> first
    | exact h.elim
    | exact op_ge pins s σ H _ _ v u Q I rx ry ⟨_, _, rfl, rfl, h⟩
/-- ==, !=: of ints, texts, bools; else of data -/
def rEqA (K : PySem.W.Frag) : R2 := fun x y H Q => match x, y with
  | .int i, .int j => Q (.bl (decide (i = j))) H
  | .str i, .str j => Q (.bl (decide (i = j))) H
  | .bl i, .bl j => Q (.bl (decide (i = j))) H
  | x, y => rEqD K x y H Q
def rNeA (K : PySem.W.Frag) : R2 := fun x y H Q => match x, y with
  | .int i, .int j => Q (.bl (!decide (i = j))) H
  | .str i, .str j => Q (.bl (!decide (i = j))) H
  | .bl i, .bl j => Q (.bl (!decide (i = j))) H
  | x, y => rNeD K x y H Q
theorem vint_dec {i j : Int} : decide (V.int i = V.int j) = decide (i = j) := by
  by_cases h : i = j
  · subst h; simp
  · have : ¬ V.int i = V.int j := fun e => h (V.int.inj e)
    rw [decide_eq_false h, decide_eq_false this]
theorem vstr_dec {i j : Str} : decide (V.str i = V.str j) = decide (i = j) := by
  by_cases h : i = j
  · subst h; simp
  · have : ¬ V.str i = V.str j := fun e => h (V.str.inj e)
    rw [decide_eq_false h, decide_eq_false this]
theorem vbl_dec {i j : Bool} : decide (V.bl i = V.bl j) = decide (i = j) := by
  cases i <;> cases j <;> rfl
theorem op_eqA {X : Cx} (hu : X.A.units + 64 < cLine) : OpR X (compareOp .Eq) (rEqA X.K) := by
  intro pins s σ H x y v u Q I rx ry h
  unfold rEqA at h
  split at h
  · exact op_eq pins s σ H _ _ v u Q I rx ry ⟨rfl, by rw [vint_dec]; exact h⟩
  · exact op_eq pins s σ H _ _ v u Q I rx ry ⟨rfl, by rw [vstr_dec]; exact h⟩
  · exact op_eq pins s σ H _ _ v u Q I rx ry ⟨rfl, by rw [vbl_dec]; exact h⟩
  · exact op_eqD hu pins s σ H _ _ v u Q I rx ry h
theorem op_neA {X : Cx} (hu : X.A.units + 64 < cLine) : OpR X (compareOp .NotEq) (rNeA X.K) := by
  intro pins s σ H x y v u Q I rx ry h
  unfold rNeA at h
  split at h
  · exact op_ne pins s σ H _ _ v u Q I rx ry ⟨rfl, by rw [vint_dec]; exact h⟩
  · exact op_ne pins s σ H _ _ v u Q I rx ry ⟨rfl, by rw [vstr_dec]; exact h⟩
  · exact op_ne pins s σ H _ _ v u Q I rx ry ⟨rfl, by rw [vbl_dec]; exact h⟩
  · exact op_neD hu pins s σ H _ _ v u Q I rx ry h
/-- a bool as a test -/
def aTest (t : TE) : TT := fun σ H Q => t σ H fun x H' => match x with | .bl k => Q k H' | _ => False
section
variable {X : Cx} {a b c e : Expr} {ta tb tc te : TE} {pos : Pos}
theorem pt_cmpA {op : CmpOp} {r : R2} (ho : OpR X (compareOp op) r) (ha : PE X a ta) (hb : PE X b tb) (hm : behindInMarks op b = false := by first | exact nomark _ | rfl | with_unfolding_all rfl) : PT X (.Compare a [op] [b] pos) (aTest (tOp r ta tb)) := by
  refine ⟨fun pins s σ H Q I h => ?_⟩
  refine wpAny_isTrue_Compare1 (thn (ha.run pins s σ H _ I h) fun v s1 ⟨x, H1, I1, r1, q1⟩ => thn (hb.run pins s1 σ H1 _ I1 q1) fun u s2 ⟨y, H2, I2, r2, q2⟩ =>
    thn (ho pins s2 σ H2 x y v u _ I2 r1 r2 q2) fun c s3 ⟨z, H3, I3, r3, q3⟩ => ?_) hm
  cases z with
  | bl k =>
    cases r3
    exact wpAny_truthy_bool ⟨H3, I3, q3⟩
  | _ => exact q3.elim
theorem pe_cmpA {op : CmpOp} {r : R2} (ho : OpR X (compareOp op) r) (ha : PE X a ta) (hb : PE X b tb) (hm : behindInMarks op b = false := by first | exact nomark _ | rfl | with_unfolding_all rfl) : PE X (.Compare a [op] [b] pos) (tOp r ta tb) := pe_cmpR ho ha hb hm
theorem pt_valA (h : PE X e te) (he : ∀ whole, isTrue e X.env whole = (do let v ← whole; standAt e.pos; holding [v] (truthy v)) := by intro _; rfl) : PT X e (aTest te) := by
  refine ⟨fun pins s σ H Q I hw => ?_⟩
  refine isTrue_plain (thn (h.run pins s σ H _ I hw) fun v s1 ⟨x, H1, I1, r1, q1⟩ => ?_) (he _)
  cases x with
  | bl k =>
    cases r1
    exact wpAny_truthy_bool ⟨H1, I1, q1⟩
  | _ => exact q1.elim

/-! ### items -/
def rIxA (K : PySem.W.Frag) : R2 := fun x y H Q => match x, y with
  | .ref p, .int i => (∃ xs v, SqL K H p xs ∧ atI xs i = some v ∧ Q v H) ∨ ∃ xs v, SqT K H p xs ∧ atI xs i = some v ∧ Q v H
  | .str z, .int i => ∃ c, z.length ≤ sizeLine ∧ atI z.cps.toList i = some c ∧ Q (.str ⟨#[c]⟩) H
  | _, _ => False
theorem IxR.imp {X : Cx} {r r' : R2} (h : IxR X r) (k : ∀ x y H Q, r' x y H Q → r x y H Q) : IxR X r' := by
  unfold IxR at h ⊢
  intros
  refine h _ _ _ _ _ _ _ _ _ _ _ (by assumption) (by assumption) (by assumption) (k _ _ _ _ (by assumption)) (by assumption)
theorem ix_A : IxR X (rIxA X.K) := ix_seq.imp fun x y H Q h => by
  unfold rIxA at h
  split at h
  · rcases h with ⟨xs, v, h1, h2, q⟩ | ⟨xs, v, h1, h2, q⟩
    · exact .inl ⟨_, xs, _, v, rfl, rfl, h1, h2, q⟩
    · exact .inr (.inl ⟨_, xs, _, v, rfl, rfl, h1, h2, q⟩)
  · obtain ⟨c, h1, h2, q⟩ := h
    exact .inr (.inr ⟨_, _, c, rfl, rfl, h1, h2, q⟩)
  · exact h.elim
theorem pe_ixA (ha : PE X a ta) (hb : PE X b tb) (hs : PlainIx b := by exact fun _ _ => rfl) : PE X (.Subscript a b pos) (tOp (rIxA X.K) ta tb) := pe_ix ix_A ha hb hs
/-! ### calls of built-ins -/
def rLenA (K : PySem.W.Frag) : List V → Hp → VK → Prop := fun vs H Q => match vs with
  | [.str y] => y.length ≤ sizeLine ∧ Q (.int (y.length : Int)) H
  | [.ref p] => (∃ xs, SqL K H p xs ∧ Q (.int (xs.length : Int)) H) ∨ ∃ xs, SqT K H p xs ∧ Q (.int (xs.length : Int)) H
  | _ => False
theorem call_lenA : CallR X (.builtin "len") (rLenA X.K) := call_len.imp fun xs H Q h => by
  unfold rLenA at h
  split at h
  · exact ⟨_, _, rfl, ⟨h.1, rfl⟩, h.2⟩
  · rcases h with ⟨ys, h1, q⟩ | ⟨ys, h1, q⟩
    · exact ⟨_, _, rfl, .inl ⟨ys, h1, rfl⟩, q⟩
    · exact ⟨_, _, rfl, .inr ⟨ys, h1, rfl⟩, q⟩
  · exact h.elim
def rAbsA : List V → Hp → VK → Prop := fun vs H Q => match vs with
  | [.int i] => Q (.int (if i < 0 then -i else i)) H
  | _ => False
theorem call_absA : CallR X (.builtin "abs") rAbsA := call_abs.imp fun xs H Q h => by
  unfold rAbsA at h
  split at h
  · exact ⟨_, rfl, h⟩
  · exact h.elim
def rIntA : List V → Hp → VK → Prop := fun vs H Q => match vs with
  | [.int i] => Q (.int i) H
  | [.bl k] => Q (.int (if k then 1 else 0)) H
  | _ => False
theorem call_intA : CallR X (.type "int") rIntA := call_int1.imp fun xs H Q h => by
  unfold rIntA at h
  split at h
  · exact .inl ⟨_, rfl, h⟩
  · exact .inr ⟨_, rfl, h⟩
  · exact h.elim
def rMaxA : List V → Hp → VK → Prop := fun vs H Q => match vs with
  | [.int i, .int j] => Q (.int (if j > i then j else i)) H
  | _ => False
theorem call_maxA (hc : X.calm = true) : CallR X (.builtin "max") rMaxA := (call_max2 hc).imp fun xs H Q h => by
  unfold rMaxA at h
  split at h
  · exact ⟨_, _, rfl, h⟩
  · exact h.elim
def rMinA : List V → Hp → VK → Prop := fun vs H Q => match vs with
  | [.int i, .int j] => Q (.int (if j < i then j else i)) H
  | _ => False
theorem call_minA (hc : X.calm = true) : CallR X (.builtin "min") rMinA := (call_min2 hc).imp fun xs H Q h => by
  unfold rMinA at h
  split at h
  · exact ⟨_, _, rfl, h⟩
  · exact h.elim
end
/-! ### a def of the text, as a caller knows it -/
structure Own (P : Program) (w : World) (K : PySem.W.Frag) (mg : Str → Option Value) (base : Heap) (CX : CXT) (x : Str) (k : Nat) (ps : List Str) (sp : Sp) : Prop where
  ex : ∃ f fd, FnG P w K mg base CX k f fd ps sp ∧ mg x = some (.ref f) ∧ PySem.W.keepIn K (.ref f) = true ∧ Binds K fd ps []
section
variable {X : Cx} {CX : CXT} {k j : Nat} {ps : List Str} {sp : Sp} {x : Str} {p pos : Pos} {e : Expr} {es : List Expr} {t : TA}
theorem Passes0 : Passes CX0 X E0 := pass0
theorem pe_own (O : Own X.prog X.w X.K X.mg X.base CX0 x k ps sp) (hr : RoomG j X.A) (ha : PA X (e :: es) t) (hk : k ≤ j := by decide) (hg : Gl X x := by rfl) (hdb : (x == ("__debug__" : Str)) = false := by decide)
    (he : starEach (e :: es) X.env = (false, eval e X.env) :: starEach es X.env := by rfl) (hpl : (backTo pos (starEach es X.env)).any (·.1) = false := by rfl) : PE X (.Call (.Name x p) (e :: es) [] pos) (tCall sp [] E0 t) := by
  obtain ⟨f, fd, F, hm, hkp, hb⟩ := O.ex
  exact pe_callG F (hr.mono hk) hg hm hkp hb .nil pass0 ha hdb he hpl
theorem pe_own0 (O : Own X.prog X.w X.K X.mg X.base CX0 x k ps sp) (hr : RoomG j X.A) (hk : k ≤ j := by decide) (hg : Gl X x := by rfl) (hdb : (x == ("__debug__" : Str)) = false := by decide) : PE X (.Call (.Name x p) [] [] pos) (tCall sp [] E0 tNil) := by
  obtain ⟨f, fd, F, hm, hkp, hb⟩ := O.ex
  exact pe_call0G F (hr.mono hk) hg hm hkp hb .nil pass0 hdb
end
/-! ### loops -/
theorem for_enum {K : PySem.W.Frag} {a : Addr} {xs : List V} {g : TG} {tb : TS} {D : Ends} {σ : St} {H : Hp} (Pv : Nat → St → Hp → Prop) (h0 : Pv 0 σ H) (hl : ∀ i σ H, i ≤ xs.length → Pv i σ H → SqL K H a xs)
    (hs : ∀ i x T σ H, xs[i]? = some x → Pv i σ H → H T = none → g (.ref T) σ (upd H T (.tup [.int (i : Nat), x])) fun σ2 H2 => tb { D with nx := Pv (i + 1), ct := Pv (i + 1), bk := D.nx } σ2 H2) (hd : ∀ σ H, Pv xs.length σ H → D.nx σ H) :
    ∃ W : Nat → Nat → St → Hp → Prop, (∃ m, W 0 m σ H) ∧ ∀ i m σ H, W i m σ H →
      ((Ite K a).stop i H ∧ D.nx σ H) ∨ ((Ite K a).go i H ∧ ∃ N : St → Hp → Prop, (∀ σ' H', N σ' H' → ∃ m', m' < m ∧ W (i + 1) m' σ' H') ∧ ∀ x H', (Ite K a).yld i H x H' → g x σ H' fun σ2 H2 => tb { D with nx := N, ct := N, bk := D.nx } σ2 H2) := by
  refine ⟨fun i m σ H => m = xs.length - i ∧ i ≤ xs.length ∧ Pv i σ H, ⟨xs.length, by simp, Nat.zero_le _, h0⟩, ?_⟩
  rintro i m σ H ⟨rfl, hi, p⟩
  have q := hl i σ H hi p
  by_cases hlt : i < xs.length
  · refine .inr ⟨⟨xs, xs[i], q, by simp [hlt]⟩, Pv (i + 1), fun σ' H' p' => ⟨xs.length - (i + 1), by omega, rfl, hlt, p'⟩, fun v H' y => ?_⟩
    obtain ⟨T, x, rfl, hT, rfl, y⟩ := y
    exact hs i x T σ H (y xs q) p hT
  · have e : i = xs.length := by omega
    subst e
    exact .inl ⟨⟨xs, q, Nat.le_refl _⟩, hd σ H p⟩
/-- a pair in two names -/
theorem tup2 {K : PySem.W.Frag} {T : Addr} {x y : V} {H : Hp} {t u : TG} {σ : St} {Q : St → Hp → Prop} (h : t x σ (upd H T (.tup [x, y])) fun σ' H' => u y σ' H' Q) : gTup K 2 (gCons t (gCons u gNil)) (.ref T) σ (upd H T (.tup [x, y])) Q := by
  refine ⟨T, [x, y], rfl, SqT.of upd_same, rfl, x, [y], rfl, ?_⟩
  have m : ∀ (P P' : St → Hp → Prop), P = P' → t x σ (upd H T (.tup [x, y])) P → t x σ (upd H T (.tup [x, y])) P' := fun P P' e q => e ▸ q
  refine m _ _ ?_ h
  funext σ' H'
  refine propext ⟨fun q => ⟨y, [], rfl, ?_⟩, fun ⟨v, r, e, q⟩ => ?_⟩
  · refine Eq.mp (congrArg (u y σ' H') (funext fun a => funext fun b => propext ⟨fun z => ⟨rfl, z⟩, fun z => z.2⟩)) q
  · cases e
    exact Eq.mp (congrArg (u y σ' H') (funext fun a => funext fun b => propext ⟨fun z => z.2, fun z => ⟨rfl, z⟩⟩)) q
theorem Same.new {H H' : Hp} {p : Addr} {o : HO} (s : Same H H') (h : H' p = none) : Same H (upd H' p o) := fun b u e => by
  rw [upd_ne (ne_of_none (s b u e) h)]
  exact s b u e
theorem RoomG.units64 {k : Nat} {A : PySem.Around} (hr : RoomG k A) : A.units + 64 < PySem.cLine := hr.r.units
theorem pow_ok {i j : Int} (h1 : -(2 ^ 64) < i) (h2 : i < 2 ^ 64) (h3 : 0 ≤ j) (h4 : j ≤ 100) : 0 ≤ j ∧ (PySem.Builtin.Int.intBits i : Int) * j ≤ 2 ^ 27 := by
  have h := PySem.intBits_le_64 h1 h2
  refine ⟨h3, ?_⟩
  have : (PySem.Builtin.Int.intBits i : Int) * j ≤ 64 * 100 := Int.mul_le_mul (by omega) h4 h3 (by decide)
  omega
theorem big_pos : (0 : Int) < ((10 : Int) ^ Int.toNat 60) ^ Int.toNat 13 := by decide +kernel
theorem big_bits : 0 ≤ (13 : Int) ∧ (PySem.Builtin.Int.intBits ((10 : Int) ^ Int.toNat 60) : Int) * 13 ≤ 2 ^ 27 := by decide +kernel
/-- a statement, then the rest, with a word between them -/
def tCut (t u : TS) : TS := fun D σ H => ∃ Mid : St → Hp → Prop, t { D with nx := Mid } σ H ∧ ∀ σ' H', Mid σ' H' → u D σ' H'
theorem pss_cut {X : Cx} {st : Stmt} {rest : List Stmt} {t u : TS} (h1 : PS X st t) (h2 : PSs X rest u) : PSs X (st :: rest) (tCut t u) := by
  refine ⟨fun pins s σ H D I h => ?_⟩
  obtain ⟨Mid, hm, hu⟩ := h
  refine wpAny_execs_cons (thn (h1.run pins s σ H { D with nx := Mid } I hm) fun f s1 q => ?_)
  cases f with
  | next =>
    obtain ⟨σ', H', I', q⟩ := q
    exact h2.run pins s1 σ' H' D I' (hu σ' H' q)
  | ret v => exact q
  | brk => exact q
  | cont => exact q
end L2

set_option Elab.async false
set_option linter.all false
set_option maxRecDepth 100000
set_option maxHeartbeats 4000000
/-! Own exception classes straight over a built-in one, with an __init__ that calls the built-in's and stores one field. -/
namespace PySem
namespace KX
open PySem.W PySem.Calls PyProof.Rows PySem.HandSPX Builtin Builtin.ObjectAttr

/-- the built-in __init__ of a class -/
structure XIni (B initId : String) : Prop where
  plain : plainId initId = true
  entry : entryFor table initId = some Builtin.«BaseException.__init__»
  kind : builtinKind initId = some .slot
  split : splitId initId = some (B, "__init__")
  row : Manifest.signature? initId = some ⟨.positional, "*", B, .self, [⟨"args", .varPos, false⟩]⟩
  noStar : (B != "*") = true
theorem ini_of {B newId initId : String} {bm : List Value} (F : ExcBaseFacts B newId initId bm) : XIni B initId := ⟨F.init.plain, F.initEntry, F.initKind, F.initSplit, F.initRow, F.noStar⟩
theorem ini_KeyError : XIni "KeyError" "KeyError.__init__" :=
  ⟨PyProof.Rows.excClass_KeyError.init.plain, PyProof.Rows.excClass_KeyError.initEntry, PyProof.Rows.excClass_KeyError.initKind, PyProof.Rows.excClass_KeyError.initSplit, PyProof.Rows.excClass_KeyError.initSig, PyProof.Rows.excClass_KeyError.notStar⟩
abbrev tKey : List Value := [.type "KeyError", .type "LookupError", .type "Exception", .type "BaseException", .type "object"]
abbrev tLookup : List Value := [.type "LookupError", .type "Exception", .type "BaseException", .type "object"]
abbrev tIndex : List Value := [.type "IndexError", .type "LookupError", .type "Exception", .type "BaseException", .type "object"]
abbrev tOverflow : List Value := [.type "OverflowError", .type "ArithmeticError", .type "Exception", .type "BaseException", .type "object"]
abbrev tRuntime : List Value := [.type "RuntimeError", .type "Exception", .type "BaseException", .type "object"]
/-- what the model says of the built-in chain bm, made by newId (of Bn), begun by initId (of Bi) -/
structure XB (Bi newId initId : String) (bm : List Value) : Prop where
  fn : ∃ (Bn I0 : String) (bm0 : List Value), ExcBaseFacts Bn newId I0 bm0 ∧ bm.contains (.type Bn) = true
  ini : XIni Bi initId
  hasI : bm.contains (.type Bi) = true
  noA : bm.contains (.type "AttributeError") = false
  noN : bm.contains (.type "NameError") = false
  obj : bm.contains (.type "object") = true
  pass : ∀ self : Value, refuseLoop self "__setattr__" bm = pure ()
theorem xb_KeyError : XB "KeyError" "LookupError.__new__" "KeyError.__init__" tKey where
  fn := ⟨_, _, _, F.excBase_LookupError, by decide +kernel⟩
  ini := ini_KeyError
  hasI := by decide +kernel
  noA := by decide +kernel
  noN := by decide +kernel
  obj := by decide +kernel
  pass := fun self => by kernel_rfl
theorem xb_LookupError : XB "LookupError" "LookupError.__new__" "LookupError.__init__" tLookup where
  fn := ⟨_, _, _, F.excBase_LookupError, by decide +kernel⟩
  ini := ini_of F.excBase_LookupError
  hasI := by decide +kernel
  noA := by decide +kernel
  noN := by decide +kernel
  obj := by decide +kernel
  pass := fun self => by kernel_rfl
theorem xb_IndexError : XB "IndexError" "IndexError.__new__" "IndexError.__init__" tIndex where
  fn := ⟨_, _, _, F.excBase_IndexError, by decide +kernel⟩
  ini := ini_of F.excBase_IndexError
  hasI := by decide +kernel
  noA := by decide +kernel
  noN := by decide +kernel
  obj := by decide +kernel
  pass := fun self => by kernel_rfl
theorem xb_OverflowError : XB "OverflowError" "OverflowError.__new__" "OverflowError.__init__" tOverflow where
  fn := ⟨_, _, _, F.excBase_OverflowError, by decide +kernel⟩
  ini := ini_of F.excBase_OverflowError
  hasI := by decide +kernel
  noA := by decide +kernel
  noN := by decide +kernel
  obj := by decide +kernel
  pass := fun self => by kernel_rfl
theorem xb_RuntimeError : XB "RuntimeError" "RuntimeError.__new__" "RuntimeError.__init__" tRuntime where
  fn := ⟨_, _, _, F.excBase_RuntimeError, by decide +kernel⟩
  ini := ini_of F.excBase_RuntimeError
  hasI := by decide +kernel
  noA := by decide +kernel
  noN := by decide +kernel
  obj := by decide +kernel
  pass := fun self => by kernel_rfl

section
variable {M : Model} {A : Around} {E : Value → Shared → Prop} {h : Heap} {g : Array GenState} {d : Drawn} {t : Nat} {os : OsState}
variable {nm q : Str} {C N : Addr} {bs bm bmB : List Value} {hdct : Bool} {sn : List Str} {sub : List Value} {ab : Bool} {col : Option Bool} {dd : Option Addr} {k0 k1 k2 k3 k5 : Option Value} {B newId initId : String}
theorem check_newX (F : ExcBaseFacts B newId initId bmB) (hB : bm.contains (.type B) = true) {rest : List Value} {Q : Unit → Shared → Prop}
    (hC : h.get? C = some (excClassObj nm q C N bs bm hdct sn sub ab col dd k0 k1 k2 k3 k5 newId)) (hq : Q () ⟨h, g, d, t, os⟩) : wpAny M A (checkBuiltinCall newId ⟨.ref C :: rest, []⟩) Q E ⟨h, g, d, t, os⟩ := by
  have hcont : (Value.ref C :: bm).contains (.type B) = true := by rw [List.contains_cons, hB, Bool.or_true]
  have hstar := F.noStar
  simp only [checkBuiltinCall, F.newKind, F.newSplit, F.newRow]
  repeat (first | refine wpAny_loadPart_at hC ?_ | (refine wpAny_isSubtype_exc hC ?_; rw [hcont]) | refine wpAny_staticBase_exc hC ?_ | refine wpAny_madeBy_exc hC ?_ | simp only [bne_self_eq_false, Bool.false_eq_true, if_false] | wp_step)
  exact hq
theorem check_initX (F : XIni B initId) (hB : bm.contains (.type B) = true) {e : Addr} {oe : Obj} {rest : List Value} {Q : Unit → Shared → Prop}
    (hC : h.get? C = some (excClassObj nm q C N bs bm hdct sn sub ab col dd k0 k1 k2 k3 k5 newId)) (he : h.get? e = some oe) (hcls : oe.cls = .ref C) (hq : Q () ⟨h, g, d, t, os⟩) :
    wpAny M A (checkBuiltinCall initId ⟨.ref e :: rest, []⟩) Q E ⟨h, g, d, t, os⟩ := by
  have hcB : (Value.ref C :: bm).contains (.type B) = true := by rw [List.contains_cons, hB, Bool.or_true]
  have hshort := F.noStar
  simp only [checkBuiltinCall, F.kind, F.split, F.row]
  repeat (first | (with_reducible refine wpAny_loadPart_at he ?_; rw [hcls]) | with_reducible refine wpAny_loadPart_at hC ?_ | (with_reducible refine wpAny_isSubtype_exc hC ?_; rw [hcB]) | wp_step)
  refine wpAny_onRaise ?_
  rw [show ∀ (a b : String) (n : Nat), Bind.check ⟨.positional, "*", B, .self, [⟨"args", .varPos, false⟩]⟩ a b n (List.map (fun x => x.fst) ({ pos := Value.ref e :: rest } : Args).kw) = pure () from
    fun a b n => check_star_args _ _ _ _ _ _]
  exact wpAny_pure hq
end
section
variable {prog : Program} {w : World} {A : Around} {E : Value → Shared → Prop} {R : Result → Shared → Prop} {h : Heap} {g : Array GenState} {d : Drawn} {t : Nat} {os : OsState}
variable {nm q : Str} {C N : Addr} {bs bm bmB : List Value} {hdct : Bool} {sn : List Str} {sub : List Value} {ab : Bool} {col : Option Bool} {dd : Option Addr} {k0 k1 k2 k3 k5 : Option Value} {B newId initId : String}
theorem newX (F : ExcBaseFacts B newId initId bmB) (hB : bm.contains (.type B) = true) (hA : bm.contains (.type "AttributeError") = false) (hN : bm.contains (.type "NameError") = false) {rest : List Value}
    (hC : h.get? C = some (excClassObj nm q C N bs bm hdct sn sub ab col dd k0 k1 k2 k3 k5 newId))
    (hq : R (.ok (.ret (.ref (h.objs.size + 1)))) ⟨(h.push { cls := .type "tuple", data := .seq rest.toArray }).push
      { cls := .ref C, data := .fields #[.ref h.objs.size, .none, .none, .none, .bool false, .none] }, g, d, t, os⟩) (hrest : rest.length ≤ sizeLine) :
    codeAny (model prog w) A (.builtin newId ⟨.ref C :: rest, []⟩) R ⟨h, g, d, t, os⟩ := by
  have hends := F.ends
  have hcB : (Value.ref C :: bm).contains (.type B) = true := by rw [List.contains_cons, hB, Bool.or_true]
  have hcA : (Value.ref C :: bm).contains (.type "AttributeError") = false := by rw [List.contains_cons, hA]; rfl
  have hcN : (Value.ref C :: bm).contains (.type "NameError") = false := by rw [List.contains_cons, hN]; rfl
  refine codeAny_builtinAt F.entry ?_
  unfold Builtin.«BaseException.__new__»
  refine wpAt_bind ?_
  show wpAt _ _ _ (stack >>= _) _ _ _
  refine wpAt_bind (wpAt_stack fun p below => wpAt_of_wpAny ?_)
  wp_walk
  refine wpAt_of_wpAny ?_
  rw [F.owner]
  repeat (first | with_reducible refine wpAny_madeHere_exc F.canon hC ?_ | with_reducible refine wpAny_loadPart_at hC ?_ | (with_reducible refine wpAny_isSubtype_exc hC ?_; first | rw [hcB] | rw [hcA] | rw [hcN]) | wp_step)
  show R _ _
  rw [Heap.size_push]
  exact hq
theorem type_callX (F : ExcBaseFacts B newId initId bmB) (hB : bm.contains (.type B) = true) (hA : bm.contains (.type "AttributeError") = false) (hN : bm.contains (.type "NameError") = false) {rest : List Value} {fI : Addr} {Q : Fin → Shared → Prop}
    (hC : h.get? C = some (excClassObj nm q C N bs bm hdct sn sub ab col dd k0 k1 k2 k3 k5 newId))
    (hi : W.Looks (model prog w) h (typeLookup (.ref C) "__init__") (some (.ref fI))) (hb : ∀ self, W.Looks (model prog w) h (bindSpecial (.ref fI) self) (.ref fI, [self])) (hrest : rest.length ≤ sizeLine)
    (hq : codeAny (model prog w) A (.call (.ref fI) ⟨.ref (h.objs.size + 1) :: rest, []⟩)
      (fun r s' => match r with | .ok (.ret v) => v = .none ∧ Q (.done (.ret (.ref (h.objs.size + 1)))) s' | .ok _ => False | .error e => E e s')
      ⟨(h.push (W.kdv_tup rest)).push (excO C h.objs.size), g, d, t, os⟩) :
    wpAny (model prog w) A (Builtin.«type.__call__» ⟨.ref C :: rest, []⟩) Q E ⟨h, g, d, t, os⟩ := by
  repeat (first | with_reducible refine wpAny_loadPart_at hC ?_ | with_reducible refine wpAny_madeBy_exc hC ?_ | wp_step)
  refine codeAny_call_builtin_code (Code.quiet_builtin _ F.quiet) (check_newX F hB hC ?_)
  refine newX F hB hA hN hC ?_ hrest
  show wpAny _ _ _ _ _ _
  have k : ∀ b o, h.get? b = some o → ((h.push (W.kdv_tup rest)).push (excO C h.objs.size)).get? b = some o := fun b o e => Heap.get?_push_of_some _ (Heap.get?_push_of_some _ e)
  have hC₁ := k _ _ hC
  have hget : ((h.push (W.kdv_tup rest)).push (excO C h.objs.size)).get? (h.objs.size + 1) = some (excO C h.objs.size) := by heap_get
  have hcC : (Value.ref C :: bm).contains (.ref C) = true := by simp
  have i1 := hi.keeps k
  have b1 := (hb (.ref (h.objs.size + 1))).keeps k
  unfold isInstance
  repeat (first | with_reducible refine wpAny_loadPart_at hget ?_ | (with_reducible refine wpAny_isSubtype_exc hC₁ ?_; rw [hcC]) | wp_step)
  show wpAny _ _ (typeLookup (.ref C) _) _ _ _
  refine i1.at ?_
  refine wpAny_holding (wpAny_bind (b1.at ?_))
  refine wpAny_bind (wpAny_call (codeAny_mono hq fun r s' z => ?_))
  rcases r with e | (v | _ | _ | _) <;> first | exact z | exact z.elim | skip
  obtain ⟨rfl, z⟩ := z
  first
    | exact wpAny_pure (wpAny_pure z)
    | (wp_walk; exact z)
theorem callX (F : ExcBaseFacts B newId initId bmB) (hB : bm.contains (.type B) = true) (hA : bm.contains (.type "AttributeError") = false) (hN : bm.contains (.type "NameError") = false) {rest : List Value} {fI : Addr}
    (hC : h.get? C = some (excClassObj nm q C N bs bm hdct sn sub ab col dd k0 k1 k2 k3 k5 newId))
    (hi : W.Looks (model prog w) h (typeLookup (.ref C) "__init__") (some (.ref fI))) (hb : ∀ self, W.Looks (model prog w) h (bindSpecial (.ref fI) self) (.ref fI, [self])) (hrest : rest.length ≤ sizeLine)
    (hq : codeAny (model prog w) (A.under (.builtin "type.__call__" ⟨.ref C :: rest, []⟩)) (.call (.ref fI) ⟨.ref (h.objs.size + 1) :: rest, []⟩) (W.InitBack (h.objs.size + 1) R)
      ⟨(h.push (W.kdv_tup rest)).push (excO C h.objs.size), g, d, t, os⟩) :
    codeAny (model prog w) A (.call (.ref C) ⟨rest, []⟩) R ⟨h, g, d, t, os⟩ := by
  have f1 := tc_lookup
  have f2 := tc_bind (.ref C)
  have hTy : (⟨h, g, d, t, os⟩ : Shared).TypeIs (.ref C) "type" := ⟨_, hC, rfl⟩
  refine codeAny_of_tree ?_
  show wpAny _ _ (callAny (.ref C) _) _ _ _
  repeat (any_goals (first | assumption | with_reducible refine wpAny_loadPart_at hC ?_ | wp_step))
  refine ⟨rfl, ?_⟩
  refine codeAny_call_builtin_at (Code.quiet_builtin _ (by decide +kernel)) entry_typeCall (wpAny_check_type_call_sub hC (type_callX F hB hA hN hC hi hb hrest ?_))
  refine codeAny_mono hq fun r s' z => ?_
  rcases r with e | (v | _ | _ | _) <;> exact z
theorem init_baseX (F : XIni B initId) (hB : bm.contains (.type B) = true) {e t0 : Addr} {rest : List Value}
    (hC : h.get? C = some (excClassObj nm q C N bs bm hdct sn sub ab col dd k0 k1 k2 k3 k5 newId)) (he : h.get? e = some (excO C t0)) (hrest : rest.length ≤ sizeLine)
    (hq : ∀ h' t1, (∀ b o, b ≠ e → h.get? b = some o → h'.get? b = some o) → h'.get? e = some (excO C t1) → R (.ok (.ret .none)) ⟨h', g, d, t, os⟩) :
    codeAny (model prog w) A (.call (.builtin initId) ⟨.ref e :: rest, []⟩) R ⟨h, g, d, t, os⟩ := by
  refine codeAny_call_builtin F.plain F.entry (check_initX F hB hC he rfl ?_)
  wp_walk
  refine hq _ h.objs.size (fun b o hb ho => ?_) ?_
  · rw [Heap.get?_update_other _ _ (Ne.symm hb)]
    exact Heap.get?_push_of_some _ ho
  · rw [Heap.get?_update_self _ (Heap.get?_push_of_some _ he) rfl]
    rfl
end
section
variable {prog : Program} {w : World} {A : Around} {E : Value → Shared → Prop} {R : Result → Shared → Prop} {hp : Heap} {g : Array GenState} {d : Drawn} {t : Nat} {os : OsState}
theorem exc_osaX {K : W.Frag} {name : Str} {tk : Tok} {v : Value} {x C : Addr} {fv : Array Value} {cd : ClassData} {bm : List Value}
    (X : K.In hp) (hx : hp.get? x = some { cls := .ref C, data := .fields fv }) (hcd : W.clsIn K C = some cd) (hm : cd.mro = .ref C :: bm) (hpass : ∀ self : Value, refuseLoop self "__setattr__" bm = pure ()) (hobj : bm.contains (.type "object") = true)
    (hh : cd.hasDict = true) (ha : W.findIn K (.ref C) name = some none)
    (hq : ∀ h' tk' dx, (∀ b o, b ≠ x → hp.get? b = some o → h'.get? b = some o) → hp.objs.size ≤ dx → dx ≠ x → h'.get? x = some { cls := .ref C, dict := some dx, data := .fields fv } →
      h'.Ns1 dx (fun y => if y = name then some v else none) → R (.ok (.ret .none)) ⟨h', g, d, tk', os⟩) :
    codeAny (model prog w) A (.call (.builtin "object.__setattr__") ⟨[.ref x, .str name tk, v], []⟩) R ⟨hp, g, d, t, os⟩ := by
  have I : W.InstAt hp x { cls := .ref C, data := .fields fv } C none := ⟨hx, rfl, rfl, trivial⟩
  have SF := F.store_object
  have ne : cd.mro.isEmpty = false := by rw [hm]; rfl
  have hob : cd.mro.contains (.type "object") = true := by rw [hm, List.contains_cons, hobj, Bool.or_true]
  have hxs : x ≠ hp.objs.size := Nat.ne_of_lt (Heap.lt_size hx)
  have sub : W.Looks (model prog w) hp (isInstance (.ref x) (.type "object")) true := I.type.andThen (W.looks_mroIn X (by unfold W.mroIn; rw [hcd, Option.bind_some, if_neg (by rw [ne]; decide), hob]))
  refine codeAny_call_builtin SF.slot.plain SF.entry (@W.check_slot (model prog w) _ _ ⟨hp, g, d, t, os⟩ "object.__setattr__" "object" "__setattr__" (.ref x) [.str name tk, v] [] _ SF.kind SF.split sub (SF.args (.ref x) (.str name tk) v) ?_)
  have hmr : W.Looks (model prog w) hp (mroOf (.ref C)) cd.mro := (W.looks_clsIn X hcd).andThen .now
  have L3 : W.Looks (model prog w) hp (storeTaker? none) none := .now
  have hcls : W.Looks (model prog w) hp (classData C) cd := W.looks_clsIn X hcd
  rw [W.osa_eq, refuse_eq]
  refine wpAny_bind (wpAny_bind (I.type.at (wpAny_bind (hmr.at ?_))))
  rw [hm, refuseLoop_ref, hpass]
  refine wpAny_pure (wpAny_bind (I.type.at (wpAny_bind ((W.looks_findIn X ha).at (wpAny_bind (L3.at ?_))))))
  show wpAny _ _ (storeInOwnDict (.ref x) (.ref C) (.str name tk) name v false) _ _ _
  obtain ⟨nm, bs, mro, ns, qn, hd, sn, sb, ab, col, del⟩ := cd
  dsimp only at hh
  subst hh
  unfold storeInOwnDict ownDictForStores
  repeat (first | with_reducible refine store_in_new ?_ ?_ | with_reducible refine wpAny_loadPart_at hx ?_ | with_reducible refine hcls.at ?_ | wp_step)
  · exact ⟨_, #[], _, (Heap.get?_update_ne _ _ _ _ hxs.symm).trans (Heap.get?_push_at rfl rfl), rfl, fun e he => absurd he (by simp), fun _ => rfl⟩
  · intro h' tk' hn' hs
    have hx₁ : (hp.push { cls := .type "dict", data := .dict #[] }).get? x = some { cls := .ref C, data := .fields fv } := Heap.get?_push_of_some _ hx
    refine hq h' tk' hp.objs.size (fun b o hb ho => ?_) (Nat.le_refl _) hxs.symm ?_ hn'
    · exact (hs.2 b (Nat.ne_of_lt (Heap.lt_size ho))).trans ((Heap.get?_update_ne _ _ _ _ hb).trans (Heap.get?_push_of_some _ ho))
    · exact (hs.2 x hxs).trans (Heap.get?_update_self _ hx₁ rfl)
end
end KX
end PySem

namespace L2
open PySem PySem.Spec PyProof.Rows PySem.KX
/-- what the written part says of an own class over bm with its own __init__ -/
structure XCls (K : PySem.W.Frag) (C : Addr) (newId : String) (bm : List Value) : Prop where
  cls : ∃ nm q N bs sn sub ab col dd k0 k1 k2 k3 k5, K.lookup C = some (excClassObj nm q C N bs bm true sn sub ab col dd k0 k1 k2 k3 k5 newId)
  sa : PySem.W.findIn K (.ref C) "__setattr__" = some (some (.builtin "object.__setattr__"))
  exC : PySem.W.subIn K (.ref C) (.type "BaseException") = some true
  tyC : PySem.W.typeIn K (.ref C) = some (.type "type")
  kC : PySem.W.keepIn K (.ref C) = true
section
variable {X : Cx} {pins : List (Addr × Obj)} {σ : St} {H : Hp} {s : Shared} {a C dx : Addr} {f : Str} {y : V} {u : Value} {fs : List (Str × V)} {Q : Unit → Shared → Prop} {E : Value → Shared → Prop} {A : Around} {Bi newId initId : String} {bm : List Value}
theorem ost_newX (B : XB Bi newId initId bm) (T : XCls X.K C newId bm) (I : Inv X pins σ H s) (e : H a = some (exo a C none)) (hno : PySem.W.findIn X.K (.ref C) f = some none) (ry : RelV y u)
    (h : ∀ dx s', H dx = none → dx ≠ a → Inv X pins σ (upd (upd H dx (exd dx [(f, y)])) a (exo a C (some dx))) s' → Q () s') : wpAny (model X.prog X.w) A (setAttr (.ref a) f u) Q E s := by
  obtain ⟨nm, q, N, bs, sn, sub, ab, col, dd, k0, k1, k2, k3, k5, hC⟩ := T.cls
  have hcl : PySem.W.clsIn X.K C = some { name := nm, bases := bs, mro := .ref C :: bm, ns := N, qualname := q, hasDict := true, slotNames := sn, subclasses := sub, abstract := ab, collection := col, hasDel := false } := by unfold PySem.W.clsIn; rw [hC] <;> rfl
  obtain ⟨t1, ho⟩ := exo_at I.hok e
  obtain ⟨hp, g, d, t, os⟩ := s
  refine PySem.W.set_plain I.kIn (ox := { cls := .ref C, dict := none, data := .fields #[.ref t1, .none, .none, .none, .bool false, .none] }) (od := none) ⟨ho, rfl, rfl, trivial⟩ T.sa ?_
  refine PySem.KX.exc_osaX I.kIn ho hcl rfl B.pass B.obj rfl hno (fun h' tk' dx k dn dne hx hn => ?_)
  have hnd : H dx = none := I.hok.fresh dn
  have nd : ∀ {b : Addr} {o : Obj}, hp.get? b = some o → b ≠ dx := fun {b o} q => Nat.ne_of_lt (Nat.lt_of_lt_of_le (Heap.lt_size q) dn)
  have na : ∀ {b : Addr}, H b = none → b ≠ a := fun {b} n z => by
    rw [z, e] at n
    cases n
  have Un1 : Un X.fs [] H (upd (upd H dx (exd dx [(f, y)])) a (exo a C (some dx))) hp h' := {
    keep := fun b o q n _ _ => k b o (na n) q
    slot := fun b o q n _ _ => ⟨o.slots, k b o (na n) q⟩
    free := fun b o q n _ => by rw [upd_ne (na n), upd_ne (nd q)]; exact n
    there := fun b o q _ => by
      by_cases hb : b = a
      · exact ⟨_, by rw [hb]; exact hx⟩
      · exact ⟨o, k b o hb q⟩
    tups := fun b xs q => by rw [upd_ne (at_ne e q exo_tup), upd_ne (ne_of_none q hnd)]; exact q
    frzs := fun b o v q => by rw [upd_ne (at_ne e q exo_frz), upd_ne (ne_of_none q hnd)]; exact q
    tbls := fun b ps q => ⟨#[], by rw [upd_ne (at_ne e q exo_tbl), upd_ne (ne_of_none q hnd), q]; simp⟩ }
  refine h dx _ hnd dne (I.un (t' := tk') Un1 fun b o q => ?_)
  by_cases hb : b = a
  · subst hb
    rw [upd_same] at q
    cases q
    exact exo_ok hx
  · rw [upd_ne hb] at q
    by_cases hd : b = dx
    · subst hd
      rw [upd_same] at q
      cases q
      exact exd_ok hn (relO_put (fs := []) ry fun g => True.intro)
    · rw [upd_ne hd] at q
      exact (I.hok b o q).stay (fun c v hc z => k c v (by
          rcases hc with hc | hc
          · rw [hc]
            exact hb
          · exact at_ne e hc exo_own) z)
        (fun c hc => by rw [upd_ne (at_ne e hc exo_own), upd_ne (ne_of_none hc hnd)]; exact hc) (fun c xs hc => by rw [upd_ne (at_ne e hc exo_tup), upd_ne (ne_of_none hc hnd)]; exact hc)
theorem oinit_okX {us : List Value} {Q : Value → Shared → Prop} (B : XB Bi newId initId bm) (T : XCls X.K C newId bm) (I : Inv X pins σ H s) (e : H a = some (exo a C none)) (hl : us.length ≤ sizeLine) (h : ∀ s', Inv X pins σ H s' → Q .none s') :
    wpAny (model X.prog X.w) A (call (.builtin initId) (.ref a :: us)) Q E s := by
  obtain ⟨nm, q, N, bs, sn, sub, ab, col, dd, k0, k1, k2, k3, k5, hC⟩ := T.cls
  obtain ⟨t1, ho⟩ := exo_at I.hok e
  obtain ⟨hp, g, d, t, os⟩ := s
  refine wpAny_call (PySem.KX.init_baseX B.ini B.hasI (I.kIn _ _ hC) ho hl fun h' t2 k hx => ?_)
  have J := I.write (t' := t) (x := a) (e := a) (o := exo a C none) (by rw [e]; exact True.intro) (.inl rfl) k ⟨_, hx⟩ (exo_ok hx)
  have eu : upd H a (exo a C none) = H := by
    funext b
    by_cases hb : b = a
    · rw [hb, upd_same, e]
    · rw [upd_ne hb]
  rw [eu] at J
  exact h _ J
end
/-- KeyError.__init__(self, ..) and its like -/
def tXI (K : PySem.W.Frag) (newId : String) (bm : List Value) (ta : TA) : TE := fun σ H Q => ta σ H fun vs H1 => ∃ (a C : Addr) (ws : List V), vs = .ref a :: ws ∧ ws.length ≤ 1000 ∧ XCls K C newId bm ∧ H1 a = some (exo a C none) ∧ Q .non H1
/-- self.f = e, the first one -/
def tXS (K : PySem.W.Frag) (newId : String) (bm : List Value) (f : Str) (to te : TE) : TS := fun D σ H => te σ H fun y H1 => to σ H1 fun x H2 => ∃ a C : Addr, x = .ref a ∧ XCls K C newId bm ∧ PySem.W.findIn K (.ref C) f = some none ∧
  H2 a = some (exo a C none) ∧ ∀ dx, H2 dx = none → dx ≠ a → D.nx σ (upd (upd H2 dx (exd dx [(f, y)])) a (exo a C (some dx)))
section
variable {X : Cx} {o e : Expr} {es : List Expr} {to te : TE} {ta : TA} {f : Str} {p p' p1 p2 pos : Pos} {Bi newId initId : String} {bm : List Value}
end
end L2

set_option Elab.async false
set_option linter.all false
set_option maxRecDepth 100000
set_option maxHeartbeats 4000000
namespace L2
open PySem PySem.Spec PyProof.Rows PySem.KX
section
variable {X : Cx} {o e : Expr} {es : List Expr} {to te : TE} {ta : TA} {f : Str} {p p' p1 p2 pos : Pos} {Bi newId initId : String} {bm : List Value}
theorem pe_xini {x : Str} {pl : Sem Bool} (B : XB Bi newId initId bm) (hm : X.mg x = none) (hbt : bootBuiltins x = some (.type Bi)) (hty : typeOf (.type Bi) = pure (.type "type")) (hst : Manifest.isStub Bi = false) (hh : PySem.W.handedIn (.builtin initId) = true)
    (vV : PySem.W.findCls X.K (.type Bi) (.type "type") "__init__" = some (.val (.builtin initId))) (ha : PA X (e :: es) ta) (hg : Gl X x := by rfl) (hn : x ≠ "__name__" := by decide) (hdb : (x == ("__debug__" : Str)) = false := by decide)
    (hc : eval (.Call (.Attribute (.Name x p1) "__init__" p2) (e :: es) [] pos) X.env = (do
      let ov ← eval (.Name x p1) X.env
      standAt p2.atName
      let (f, first) ← holding [ov] (getMethod ov "__init__" pl)
      callWith pos f first (backTo pos (starEach (e :: es) X.env)) (backToKw pos (keywordEach [] X.env))) := by rfl)
    (he : starEach (e :: es) X.env = (false, eval e X.env) :: starEach es X.env := by rfl) (hpl : (backTo pos (starEach es X.env)).any (·.1) = false := by rfl) :
    PE X (.Call (.Attribute (.Name x p1) "__init__" p2) (e :: es) [] pos) (tXI X.K newId bm ta) := by
  refine ⟨fun pins s σ H Q I h => ?_⟩
  refine PySem.W.methodCall_KW (ld_blt I hg hm hbt ?_ hn hdb) hc
  obtain ⟨m, fr⟩ := I.fr
  refine PySem.W.method_type fr I.ok.mod.kin hty hst vV hh ?_
  show wpAny _ _ (callWith pos (Value.builtin initId) [] (backTo pos (starEach (e :: es) X.env)) []) _ _ _
  refine PyProof.Rows.callWith_method1 (thn (ha.run pos pins _ σ H _ (I.tok _) h) fun us s1 ⟨vs, H1, I1, r1, a, C, ws, ev, hl, T, ea, q⟩ => ?_) he hpl
  subst ev
  cases r1 with
  | @cons _ u0 _ ur ra rw' =>
    obtain rfl : u0 = Value.ref a := ra
    have hlen : ur.length ≤ sizeLine := by
      rw [← Paired.length rw', sizeLine_eq]
      omega
    exact oinit_okX B T I1 ea hlen fun s' J => ⟨.non, H1, J, rfl, q⟩
theorem ps_xs (B : XB Bi newId initId bm) (ho : PE X o to) (he : PE X e te) (hs : swapsWith e (some (.Attribute o f p')) pos.line X.env = pure false := by rfl) : PS X (.Assign [.Attribute o f p'] e pos) (tXS X.K newId bm f to te) := by
  refine ⟨fun pins s σ H D I h => ?_⟩
  refine plainObj_wpAny_Assign_Attribute (thn (he.run pins s σ H _ I h) fun v s1 ⟨y, H1, I1, r1, q1⟩ => thn (ho.run pins s1 σ H1 _ I1 q1) fun u s2 ⟨x, H2, I2, r2, a, C, ex, T, hno, ea, q⟩ => ?_) hs
  subst ex
  obtain rfl : u = Value.ref a := r2
  exact ost_newX B T I2 ea hno r1 fun dx s' n ne J => ⟨σ, _, J, q dx n ne⟩
/-- C(e, ..) as a value, C's own __init__ keeping sp -/
def tMkV (C : Addr) (sp : Sp) (ta : TA) : TE := fun σ H Q => ta σ H fun vs H1 => vs.length ≤ 1000 ∧ ∀ a, H1 a = none → sp (.ref a :: vs) (upd H1 a (exo a C none)) (fun v H2 => v = .non ∧ Q (.ref a) H2) (fun _ _ _ => False)
theorem run_oexX {CX : CXT} {C fI : Addr} {k : Nat} {fd : FuncData} {ps : List Str} {sp : Sp} (B : XB Bi newId initId bm) (T : XCls X.K C newId bm) (iC : PySem.W.findIn X.K (.ref C) "__init__" = some (some (.ref fI))) (tI : PySem.W.typeIn X.K (.ref fI) = some (.type "function"))
    (F1 : FnOk X.prog X.w X.K X.mg X.base CX k fI fd ps sp) (hr : Room (k + 1) X.A) (hb : Binds X.K fd ps []) (hx : Passes CX X (fun _ _ _ => False)) {pins : List (Addr × Obj)} {σ : St} {H1 : Hp} {vs : List V} {us : List Value} {hp : Heap} {g : Array GenState} {dr : Drawn} {tk : Nat} {os : OsState} {R : V → Hp → Prop}
    {Q : Value → Shared → Prop}
    (I1 : Inv X pins σ H1 ⟨hp, g, dr, tk, os⟩) (r1 : Vals vs us) (hz : vs.length ≤ 1000) (hq : sp (.ref (hp.objs.size + 1) :: vs) (upd H1 (hp.objs.size + 1) (exo (hp.objs.size + 1) C none)) R (fun _ _ _ => False))
    (fin : ∀ u s', Inv X pins σ (upd H1 (hp.objs.size + 1) (exo (hp.objs.size + 1) C none)) ⟨(hp.push (PySem.W.kdv_tup us)).push (PySem.HandSPX.excO C hp.objs.size), g, dr, tk, os⟩ →
      CE X.stack X.prog X.w (upd H1 (hp.objs.size + 1) (exo (hp.objs.size + 1) C none)) ⟨(hp.push (PySem.W.kdv_tup us)).push (PySem.HandSPX.excO C hp.objs.size), g, dr, tk, os⟩ R u s' → u = .none ∧ Q (.ref (hp.objs.size + 1)) s') :
    wpAny (model X.prog X.w) X.A (call (.ref C) us) Q X.xe ⟨hp, g, dr, tk, os⟩ := by
  obtain ⟨nm, q, N, bs, sn, sub, ab, col, dd, k0, k1, k2, k3, k5, hC⟩ := T.cls
  obtain ⟨Bn, I0, bm0, FB, hB⟩ := B.fn
  have hsz : hp.objs.size ≤ hp.objs.size + 1 := Nat.le_succ _
  have kk : ∀ b o, hp.get? b = some o → ((hp.push (PySem.W.kdv_tup us)).push (PySem.HandSPX.excO C hp.objs.size)).get? b = some o := fun b o e => Heap.get?_push_of_some _ (Heap.get?_push_of_some _ e)
  have hget : ((hp.push (PySem.W.kdv_tup us)).push (PySem.HandSPX.excO C hp.objs.size)).get? (hp.objs.size + 1) = some (PySem.HandSPX.excO C hp.objs.size) := by heap_get
  have I2 : Inv X pins σ (upd H1 (hp.objs.size + 1) (exo (hp.objs.size + 1) C none)) ⟨(hp.push (PySem.W.kdv_tup us)).push (PySem.HandSPX.excO C hp.objs.size), g, dr, tk, os⟩ :=
    I1.laid (t' := tk) (a := hp.objs.size + 1) (o := exo (hp.objs.size + 1) C none) (h' := (hp.push (PySem.W.kdv_tup us)).push (PySem.HandSPX.excO C hp.objs.size)) kk hsz (exo_ok hget)
  have r2 : Vals (V.ref (hp.objs.size + 1) :: vs) (Value.ref (hp.objs.size + 1) :: us) := .cons rfl r1
  have hl : (Value.ref (hp.objs.size + 1) :: us).length = ps.length := by
    have e := r2.length
    rw [F1.len _ _ _ _ hq] at e
    exact e.symm
  have hus : us.length ≤ sizeLine := by
    rw [← Paired.length r1, sizeLine_eq]
    omega
  have hb2 := hb ⟨(hp.push (PySem.W.kdv_tup us)).push (PySem.HandSPX.excO C hp.objs.size), g, dr, tk, os⟩ (Value.ref (hp.objs.size + 1) :: us) I2.kIn (by rw [List.append_nil]; exact hl)
  rw [List.append_nil] at hb2
  refine wpAny_call (PySem.KX.callX FB hB B.noA B.noN (I1.kIn _ _ hC) (PySem.W.looks_findIn I1.kIn iC) (fun self => PySem.W.bind_fn I1.kIn self tI) hus
    (codeAny_mono (F1.run _ X.stack _ _ ⟨Value.ref (hp.objs.size + 1) :: us, []⟩ (Value.ref (hp.objs.size + 1) :: us) _ _ (fun _ _ _ => False) (hr.make C us []) (I2.env0.make C us []) hb2 r2 hq) fun r s' hq' => ?_))
  cases r with
  | error er => exact hx pins σ _ _ er s' I2 hq'
  | ok fl =>
    cases fl with
    | ret u => exact fin u s' I2 hq'
    | next => exact False.elim hq'
    | brk => exact False.elim hq'
    | cont => exact False.elim hq'
theorem pe_oexX {CX : CXT} {x : Str} {C fI : Addr} {k : Nat} {fd : FuncData} {ps : List Str} {sp : Sp} (B : XB Bi newId initId bm) (T : XCls X.K C newId bm) (iC : PySem.W.findIn X.K (.ref C) "__init__" = some (some (.ref fI))) (tI : PySem.W.typeIn X.K (.ref fI) = some (.type "function"))
    (F1 : FnOk X.prog X.w X.K X.mg X.base CX k fI fd ps sp) (hr : Room (k + 1) X.A) (hb : Binds X.K fd ps []) (hx : Passes CX X (fun _ _ _ => False)) (hm : X.mg x = some (.ref C)) (ha : PA X (e :: es) ta) (hg : Gl X x := by rfl)
    (hdb : (x == ("__debug__" : Str)) = false := by decide) (he : starEach (e :: es) X.env = (false, eval e X.env) :: starEach es X.env := by rfl) (hpl : (backTo pos (starEach es X.env)).any (·.1) = false := by rfl) :
    PE X (.Call (.Name x p) (e :: es) [] pos) (tMkV C sp ta) := by
  refine ⟨fun pins s σ H Q I h => ?_⟩
  refine wpAny_Call_Name_kw (ld_glob I hg hm ?_ hdb)
  refine PySem.W.callWith_K (h₀ := X.base) I.ok.mod.kin T.kC (thn (ha.run pos pins s σ H _ I h) fun us s1 ⟨vs, H1, I1, r1, hz, q1⟩ => ⟨I1.kIn, ?_⟩) he hpl
  obtain ⟨hp, g, dr, tk, os⟩ := s1
  refine run_oexX B T iC tI F1 hr hb hx I1 r1 hz (q1 _ (I1.hok.fresh (Nat.le_succ _))) fun u s' I2 hq' => ?_
  obtain ⟨v, H', I3, rv, ev, q3⟩ := I2.after hq'
  subst ev
  exact ⟨rv, ⟨V.ref (hp.objs.size + 1), H', ⟨I3.ok, I3.os, I3.bare, I3.base, I3.loc, I3.cell, I3.free, I3.freeC, I3.pin, I3.hok, I3.len⟩, rfl, q3⟩⟩
end
end L2

set_option Elab.async false
set_option linter.all false
set_option maxRecDepth 100000
set_option maxHeartbeats 4000000
namespace L2
open PySem PySem.Spec PyProof.Rows PySem.KX
section
variable {X : Cx} {o e : Expr} {es : List Expr} {to te : TE} {ta : TA} {f : Str} {p p' p1 p2 pos : Pos} {Bi newId initId : String} {bm : List Value}
/-- raise C(e, ..): the error's own dict is new -/
def tMkX (C : Addr) (sp : Sp) (ta : TA) : St → Hp → XK → Prop := fun σ H Q => ta σ H fun vs H1 => vs.length ≤ 1000 ∧ ∀ a, H1 a = none → sp (.ref a :: vs) (upd H1 a (exo a C none))
  (fun v H2 => v = .non ∧ ∃ (d : Addr) (fs : List (Str × V)), H2 a = some (exo a C (some d)) ∧ H2 d = some (exd d fs) ∧ H1 d = none ∧ Q (.ref C) (some d) (upd (del H2 a) d (.xd fs))) (fun _ _ _ => False)
theorem pmk_oexX {CX : CXT} {x : Str} {C fI : Addr} {k : Nat} {fd : FuncData} {ps : List Str} {sp : Sp} (B : XB Bi newId initId bm) (T : XCls X.K C newId bm) (iC : PySem.W.findIn X.K (.ref C) "__init__" = some (some (.ref fI))) (tI : PySem.W.typeIn X.K (.ref fI) = some (.type "function"))
    (F1 : FnOk X.prog X.w X.K X.mg X.base CX k fI fd ps sp) (hr : Room (k + 1) X.A) (hb : Binds X.K fd ps []) (hx : Passes CX X (fun _ _ _ => False)) (hm : X.mg x = some (.ref C)) (ha : PA X (e :: es) ta) (hg : Gl X x := by rfl)
    (hdb : (x == ("__debug__" : Str)) = false := by decide) (he : starEach (e :: es) X.env = (false, eval e X.env) :: starEach es X.env := by rfl) (hpl : (backTo pos (starEach es X.env)).any (·.1) = false := by rfl) :
    PMk X (.Call (.Name x p) (e :: es) [] pos) (tMkX C sp ta) := by
  intro pins s σ H Q I h
  refine wpAny_Call_Name_kw (ld_glob I hg hm ?_ hdb)
  refine PySem.W.callWith_K (h₀ := X.base) I.ok.mod.kin T.kC (thn (ha.run pos pins s σ H _ I h) fun us s1 ⟨vs, H1, I1, r1, hz, q1⟩ => ⟨I1.kIn, ?_⟩) he hpl
  obtain ⟨hp, g, dr, tk, os⟩ := s1
  have kk : ∀ b o, hp.get? b = some o → ((hp.push (PySem.W.kdv_tup us)).push (PySem.HandSPX.excO C hp.objs.size)).get? b = some o := fun b o e => Heap.get?_push_of_some _ (Heap.get?_push_of_some _ e)
  refine run_oexX B T iC tI F1 hr hb hx I1 r1 hz (q1 _ (I1.hok.fresh (Nat.le_succ _))) fun u s' I2 hq' => ?_
  obtain ⟨v, H2, os2, bare2, un2, hok2, rv, ev, d, fs, ea, ed, hd1, q2⟩ := hq'
  subst ev
  obtain ⟨h2, g2, d2, t2, os'⟩ := s'
  exact ⟨rv, mk_end (raises_own T.exC T.tyC) I1 (Nat.le_succ _) kk un2 hok2 os2 bare2 ea ed hd1 q2⟩
/-- e.f, e an exception held as a value -/
def tXA (K : PySem.W.Frag) (f : Str) (te : TE) : TE := fun σ H Q => te σ H fun x H1 => ∃ (a C d : Addr) (fs : List (Str × V)) (v : V), x = .ref a ∧ H1 a = some (exo a C (some d)) ∧ H1 d = some (exd d fs) ∧ XfC K C ∧ PySem.W.findIn K (.ref C) f = some none ∧ fs.lookup f = some v ∧ Q v H1
theorem pe_attr {n : Str} (he : PE X e te) (hb : attributeBase e n X.env (eval e X.env) = eval e X.env := by rfl) : PE X (.Attribute e n pos) (tXA X.K n te) := by
  refine ⟨fun pins s σ H Q I h => ?_⟩
  refine attr_of hb (thn (he.run pins s σ H _ I h) fun u s1 hh => ?_)
  obtain ⟨x, H1, I1, rx, a, C, d, fs, v, ex, ea, ed, T, hno, l, q⟩ := hh
  subst ex
  obtain rfl : u = Value.ref a := rx
  obtain ⟨t1, ho⟩ := exo_at I1.hok ea
  obtain ⟨mA, hns, hr⟩ := exd_at I1.hok ed
  obtain ⟨od, hod, hl⟩ := lookIn_ns hns
  obtain ⟨u, hu, ru⟩ := RelO.some_of (v := v) (o := mA n) (by rw [← l]; exact hr n)
  have J : PySem.W.InstAt s1.heap a ({ cls := .ref C, dict := some d, data := .fields #[.ref t1, .none, .none, .none, .bool false, .none] } : Obj) C (some od) := ⟨ho, rfl, rfl, hod⟩
  exact HandSPX.exc_get I1.kIn J T.ga T.gg T.exC (PySem.W.findObj_own T.hdC hno rfl (by rw [hl, hu])) (handed_of ru) ⟨v, H1, I1.tok _, ru, q⟩
/-- an exception with one argument (its tuple at t), no dict -/
def exM (C t a : Addr) : HO := .ext fun h => h.get? a = some ({ cls := .ref C, dict := none, data := .fields #[.ref t, .none, .none, .none, .bool false, .none] } : Obj)
theorem exM_ok {P : Program} {w : World} {H : Hp} {h : Heap} {a C t : Addr} (he : h.get? a = some ({ cls := .ref C, dict := none, data := .fields #[.ref t, .none, .none, .none, .bool false, .none] } : Obj)) : ObjOk P w H h a (exM C t a) :=
  ⟨he, ⟨_, he⟩, fun h1 h2 z k => k _ z⟩
theorem exM_at {P : Program} {w : World} {H : Hp} {h : Heap} {a C t : Addr} (hok : HOk P w H h) (he : H a = some (exM C t a)) : h.get? a = some ({ cls := .ref C, dict := none, data := .fields #[.ref t, .none, .none, .none, .bool false, .none] } : Obj) := by
  have x : ObjOk P w H h a (.ext fun h => h.get? a = some ({ cls := .ref C, dict := none, data := .fields #[.ref t, .none, .none, .none, .bool false, .none] } : Obj)) := hok a _ he
  exact x.1
/-- X(e), an own exception class without own __init__, as a value -/
def tXM (C : Addr) (te : TE) : TE := fun σ H Q => te σ H fun v H1 => ∀ t a, H1 t = none → H1 a = none → a ≠ t → Q (.ref a) (upd (upd H1 t (.tup [v])) a (exM C t a))
theorem pe_excT {C : Addr} {bmB : List Value} {B newId initId : String} {x : Str} {e : Expr} {te : TE} {p pos : Pos} (F : ExcBaseFacts B newId initId bmB) (q : PySem.W.excIn X.K C bmB newId = true) (gC : X.mg x = some (.ref C)) (kC : PySem.W.keepIn X.K (.ref C) = true) (he : PE X e te) (hg : Gl X x := by rfl)
    (hs : starEach [e] X.env = (false, eval e X.env) :: starEach [] X.env := by rfl) (hdb : (x == ("__debug__" : Str)) = false := by decide) :
    PE X (.Call (.Name x p) [e] [] pos) (tXM C te) := by
  refine ⟨fun pins s σ H Q I h => ?_⟩
  refine wpAny_Call_Name_kw (ld_glob I hg gC ?_ hdb)
  refine PySem.W.callWith_K (h₀ := X.base) I.ok.mod.kin kC ?_ hs (by rfl)
  rw [hs]
  show wpAny _ _ (spliced ((false, eval e X.env) :: backTo pos (starEach [] X.env))) _ _ s
  refine Calls.spliced_cons (thn (he.run pins s σ H _ I h) fun u s1 ⟨v, H1, I1, r1, q1⟩ => ?_)
  refine Calls.spliced_nil ⟨I1.kIn, ?_⟩
  show wpAny _ _ (call (.ref C) [u]) _ _ _
  obtain ⟨bm, N, nm, qn, bs, hdct, sn, sub, ab, col, dd, k0, k1, k2, k3, k5, mN, hC, hN, hni, T⟩ := exc_obj I1.kIn q
  refine wpAny_call_exc_subT F T hC hN hni (fun h' a hm => ?_) (by show 1 ≤ sizeLine; rw [sizeLine_eq]; omega)
  have hn : H1 a = none := I1.hok.gone hm.new
  obtain ⟨t, ha, hnt, ht⟩ := hm.there
  have htn : H1 t = none := I1.hok.gone hnt
  have hat : a ≠ t := fun z => by
    rw [z, ht] at ha
    cases ha
  -- first the arguments, then the exception
  have un : Un X.fs [] H1 (upd (upd H1 t (.tup [v])) a (exM C t a)) s1.heap h' := {
    keep := fun b o z n _ _ => hm.keeps b o z
    slot := fun b o z n _ _ => ⟨o.slots, hm.keeps b o z⟩
    free := fun b o z n _ => by
      have nb : b ≠ a := fun y => by rw [y, hm.new] at z; cases z
      have nt : b ≠ t := fun y => by rw [y, hnt] at z; cases z
      rw [upd_ne nb, upd_ne nt]; exact n
    there := fun b o z _ => ⟨o, hm.keeps b o z⟩
    tups := fun b xs z => by rw [upd_ne (ne_of_none z hn), upd_ne (ne_of_none z htn)]; exact z
    frzs := fun b o u z => by rw [upd_ne (ne_of_none z hn), upd_ne (ne_of_none z htn)]; exact z
    tbls := fun b ps z => ⟨#[], by rw [upd_ne (ne_of_none z hn), upd_ne (ne_of_none z htn), z]; simp⟩ }
  have ok2 : HOk X.prog X.w (upd (upd H1 t (.tup [v])) a (exM C t a)) h' := fun b o z => by
    by_cases hb : b = a
    · subst hb
      rw [upd_same] at z
      cases z
      exact exM_ok ha
    · rw [upd_ne hb] at z
      by_cases hb2 : b = t
      · subst hb2
        rw [upd_same] at z
        cases z
        refine ⟨by show 1 ≤ sizeLine; rw [sizeLine_eq]; omega, [u], .cons r1 .nil, ⟨_, ht, rfl, _, rfl⟩⟩
      · rw [upd_ne hb2] at z
        exact (I1.hok b o z).stay (fun c w' _ y => hm.keeps c w' y) (fun c y => by rw [upd_ne (ne_of_none y hn), upd_ne (ne_of_none y htn)]; exact y) fun c xs y => by rw [upd_ne (ne_of_none y hn), upd_ne (ne_of_none y htn)]; exact y
  exact ⟨.ref a, _, I1.un (t' := s1.toks) un ok2, rfl, q1 t a htn hn hat⟩
/-- what isinstance asks of an own exception class -/
structure XI (K : PySem.W.Frag) (C : Addr) : Prop where
  cl : (PySem.W.clsIn K C).isSome = true
  ga : PySem.W.findIn K (.ref C) "__getattribute__" = some (some (.builtin "BaseException.__getattribute__"))
  gg : PySem.W.findIn K (.ref C) "__getattr__" = some none
  ex : PySem.W.subIn K (.ref C) (.type "BaseException") = some true
  ca : PySem.W.findIn K (.ref C) "__class__" = some (some (.builtin "object.__class__"))
  cn : PySem.W.specialIn K (.builtin "object.__class__") "__get__" = some (some (.builtin "getset_descriptor.__get__"))
  ct : PySem.W.takesIn K (.builtin "object.__class__") = some true
  mo : PySem.W.mroIn K C (.type "object") = some true
def xiB (K : PySem.W.Frag) (C : Addr) : Bool := (PySem.W.clsIn K C).isSome && (decide (PySem.W.findIn K (.ref C) "__getattribute__" = some (some (.builtin "BaseException.__getattribute__"))) && (decide (PySem.W.findIn K (.ref C) "__getattr__" = some none) &&
  (decide (PySem.W.subIn K (.ref C) (.type "BaseException") = some true) && (decide (PySem.W.findIn K (.ref C) "__class__" = some (some (.builtin "object.__class__"))) && (decide (PySem.W.specialIn K (.builtin "object.__class__") "__get__" = some (some (.builtin "getset_descriptor.__get__"))) &&
  (decide (PySem.W.takesIn K (.builtin "object.__class__") = some true) && decide (PySem.W.mroIn K C (.type "object") = some true)))))))
theorem xiB_ok {K : PySem.W.Frag} {C : Addr} (h : xiB K C = true) : XI K C := by
  obtain ⟨h1, h⟩ := Bool.and_eq_true_iff.mp h
  obtain ⟨h2, h⟩ := Bool.and_eq_true_iff.mp h
  obtain ⟨h3, h⟩ := Bool.and_eq_true_iff.mp h
  obtain ⟨h4, h⟩ := Bool.and_eq_true_iff.mp h
  obtain ⟨h5, h⟩ := Bool.and_eq_true_iff.mp h
  obtain ⟨h6, h⟩ := Bool.and_eq_true_iff.mp h
  obtain ⟨h7, h8⟩ := Bool.and_eq_true_iff.mp h
  exact ⟨h1, of_decide_eq_true h2, of_decide_eq_true h3, of_decide_eq_true h4, of_decide_eq_true h5, of_decide_eq_true h6, of_decide_eq_true h7, of_decide_eq_true h8⟩
/-- a value's type, exceptions of own classes too -/
inductive TyE (K : PySem.W.Frag) (H : Hp) : V → Value → Prop where
  | x {v : V} {t : Value} (h : TyX K H v t) : TyE K H v t
  | m {a C t : Addr} (e : H a = some (exM C t a)) (c : XI K C) : TyE K H (.ref a) (.ref C)
  | o {a C d : Addr} {fs : List (Str × V)} (e : H a = some (exo a C (some d))) (ed : H d = some (exd d fs)) (c : XI K C) : TyE K H (.ref a) (.ref C)
/-- isinstance(x, c), c a class -/
def rIsiE (K : PySem.W.Frag) : List V → Hp → VK → Prop := fun xs H Q => ∃ (x c : V) (t u : Value) (b : Bool), xs = [x, c] ∧ ClsV c u ∧ TyE K H x t ∧ PySem.W.kitOne K t u = some b ∧ Q (.bl b) H
theorem call_isiA : CallR X (.builtin "isinstance") (rIsiE X.K) := by
  intro pins s σ H xs us Q I r h
  obtain ⟨x, c, t, u, b, rfl, k, ty, e, q⟩ := h
  cases ty with
  | x ty => exact call_isi pins s σ H _ us Q I r ⟨x, c, t, u, b, rfl, k, ty, e, q⟩
  | @m a C t1 ea T =>
    obtain ⟨u1, u2, rfl, r1, r2⟩ := vals2 r
    have e2 := k.eq r2
    subst e2
    obtain rfl : u1 = Value.ref a := r1
    have ho := exM_at I.hok ea
    exact PySem.W.kia_one (PySem.W.kitx_exc (od := none) T.cl T.ga T.gg T.ex T.ca T.cn T.ct T.mo) I.kIn ⟨ho, rfl, rfl, trivial⟩ e (fun z => nomatch z) fun tk => ⟨.bl b, H, I.tok tk, rfl, q⟩
  | @o a C d fs ea ed T =>
    obtain ⟨u1, u2, rfl, r1, r2⟩ := vals2 r
    have e2 := k.eq r2
    subst e2
    obtain rfl : u1 = Value.ref a := r1
    obtain ⟨t1, ho⟩ := exo_at I.hok ea
    obtain ⟨mA, hns, hr⟩ := exd_at I.hok ed
    obtain ⟨od, hod, hl⟩ := lookIn_ns hns
    exact PySem.W.kia_one (PySem.W.kitx_exc (od := some od) T.cl T.ga T.gg T.ex T.ca T.cn T.ct T.mo) I.kIn ⟨ho, rfl, rfl, hod⟩ e (fun z => nomatch z) fun tk => ⟨.bl b, H, I.tok tk, rfl, q⟩
/-- str(x): of a text; of an exception made with one text -/
def rStrA (K : PySem.W.Frag) : List V → Hp → VK → Prop := fun xs H Q => match xs with
  | [.str a] => Q (.str a) H
  | [.ref a] => ∃ (C t : Addr) (m : Str), H a = some (exM C t a) ∧ H t = some (.tup [.str m]) ∧ PySem.W.findIn K (.ref C) "__str__" = some (some (.builtin "BaseException.__str__")) ∧ PySem.W.subIn K (.ref C) (.type "BaseException") = some true ∧ Q (.str m) H
  | _ => False
theorem call_strA (hu : X.A.units + 64 < cLine) : CallR X (.type "str") (rStrA X.K) := by
  intro pins s σ H xs us Q I r h
  unfold rStrA at h
  split at h
  · exact SkE.call_str_str pins s σ H _ us Q I r ⟨_, rfl, h⟩
  · rename_i a
    obtain ⟨C, t, m, ea, et, hs, hB, q⟩ := h
    obtain ⟨u, rfl, ru⟩ := vals1 r
    obtain rfl : u = Value.ref a := ru
    have ho := exM_at I.hok ea
    obtain ⟨its, rv, ⟨ot, hot, hc, n, hd⟩, _⟩ := I.tuple (SqT.of et)
    cases rv with
    | cons r1 r2 =>
      cases r2
      obtain ⟨tk, rfl⟩ := r1
      exact PySem.P.str_of_C_one (by omega) ⟨I.kIn, _, _, ho, rfl, rfl, rfl⟩ ⟨ot, n, hot, hc, hd⟩ hs hB ⟨.str m, H, I, ⟨tk, rfl⟩, q⟩
  · exact h.elim
/-- repr(x) of data -/
def rReprD (K : PySem.W.Frag) : List V → Hp → VK → Prop := fun xs H Q => ∃ (a : Addr) (d : PyData), xs = [.ref a] ∧ Dp K H (.ref a) d ∧ d.showable = true ∧ d.hasDict = false ∧ d.depth ≤ 60 ∧ d.shown.length ≤ sizeLine ∧ Q (.str d.shown) H
theorem call_reprA {k : Nat} (hr : RoomG k X.A) : CallR X (.builtin "repr") (rReprD X.K) := by
  intro pins s σ H xs us Q I r h
  obtain ⟨a, d, rfl, hd, h1, h2, h3, h4, q⟩ := h
  obtain ⟨u, rfl, ru⟩ := vals1 r
  obtain rfl : u = Value.ref a := ru
  obtain ⟨as, rd⟩ := Dp.reads I d _ _ hd rfl
  have hu := hr.units64
  exact repr_of_reads' (h₀ := s.heap) rd h1 (PyData.noDict_hsm h2) hr.g (by omega) (fun _ _ e => e) (fun h' u tk hk => ⟨.str d.shown, H, I.kept (t' := tk) hk, ⟨u, rfl⟩, q⟩) h4
end
end L2

set_option Elab.async false
set_option linter.all false
set_option maxRecDepth 100000
set_option maxHeartbeats 4000000
/-! Data on the abstract heap. -/
namespace L2
open PySem PySem.Spec PyProof.Rows PySem.KX
section
variable {K : PySem.W.Frag} {H H' : Hp} {v : V} {vs : List V} {d : PyData} {ds : List PyData}
theorem Same.rd {H H' : Hp} {a : Addr} {u : HO} (e : Same H H') (h : Rd H a u) : Rd H' a u := by
  rcases h with h | ⟨o, h⟩
  · exact .inl (e _ _ h)
  · exact .inr ⟨o, e _ _ h⟩
theorem Same.sqT {a : Addr} {xs : List V} (e : Same H H') (h : SqT K H a xs) : SqT K H' a xs := by
  rcases h with h | h
  · exact .inl (e.rd h)
  · exact .inr h
theorem Same.sqL {a : Addr} {xs : List V} (e : Same H H') (h : SqL K H a xs) : SqL K H' a xs := e.seq h
mutual
theorem Dp.same (e : Same H H') : ∀ (d : PyData) (v : V), Dp K H v d → Dp K H' v d
  | .none, _, h => by cases h; exact .non
  | .bool b, _, h => by cases h; exact .bl b
  | .int i, _, h => by cases h; exact .int i
  | .str x, _, h => by cases h; exact .str x
  | .list ds, _, h => by
    cases h with
    | lst hs ha => exact .lst (e.sqL hs) (DpAll.same e ds _ ha)
  | .tuple ds, _, h => by
    cases h with
    | tup hs ha => exact .tup (e.sqT hs) (DpAll.same e ds _ ha)
  | .dict _, _, h => by cases h
theorem DpAll.same (e : Same H H') : ∀ (ds : List PyData) (vs : List V), DpAll K H vs ds → DpAll K H' vs ds
  | [], _, h => by cases h; exact .nil
  | d :: ds, _, h => by
    cases h with
    | cons h1 h2 => exact .cons (Dp.same e d _ h1) (DpAll.same e ds _ h2)
end
theorem DpAll.length : ∀ {vs : List V} {ds : List PyData}, DpAll K H vs ds → vs.length = ds.length
  | _, _, .nil => rfl
  | _, _, .cons _ t => congrArg (· + 1) (DpAll.length t)
theorem DpAll.get : ∀ {vs : List V} {ds : List PyData} {i : Nat} {v : V}, DpAll K H vs ds → vs[i]? = some v → ∃ d, ds[i]? = some d ∧ Dp K H v d
  | _, _, i, v, .nil, e => by simp at e
  | _, _, 0, v, .cons h _, e => by
    simp at e
    subst e
    exact ⟨_, rfl, h⟩
  | _, _, i + 1, v, .cons _ t, e => by
    obtain ⟨d, h1, h2⟩ := DpAll.get (i := i) (v := v) t (by simpa using e)
    exact ⟨d, by simpa using h1, h2⟩
theorem DpAll.snoc : ∀ {vs : List V} {ds : List PyData}, DpAll K H vs ds → Dp K H v d → DpAll K H (vs ++ [v]) (ds ++ [d])
  | _, _, .nil, h => .cons h .nil
  | _, _, .cons h1 t, h => .cons h1 (DpAll.snoc t h)
theorem depth_mem : ∀ {ds : List PyData} {i : Nat} {d : PyData}, ds[i]? = some d → d.depth ≤ PyData.depthAll ds
  | [], i, d, e => by simp at e
  | x :: xs, 0, d, e => by
    simp at e
    subst e
    simp only [PyData.depthAll]
    exact Nat.le_max_left _ _
  | x :: xs, i + 1, d, e => by
    have := depth_mem (ds := xs) (i := i) (d := d) (by simpa using e)
    simp only [PyData.depthAll]
    exact Nat.le_trans this (Nat.le_max_right _ _)
/-- the name of a datum's type -/
def tyOfD : PyData → String
  | .none => "NoneType"
  | .bool _ => "bool"
  | .int _ => "int"
  | .str _ => "str"
  | .list _ => "list"
  | .tuple _ => "tuple"
  | .dict _ => "dict"
theorem Dp.ty (h : Dp K H v d) : TyE K H v (.type (tyOfD d)) := by
  cases h with
  | non => exact .x (.base .non)
  | bl b => exact .x (.base (.bl b))
  | int i => exact .x (.base (.int i))
  | str x => exact .x (.base (.str x))
  | lst hs ha =>
    rcases hs with (hs | ⟨o, hs⟩) | ⟨o, its, n, hk, hc, _⟩
    · exact .x (.base (.lst hs))
    · exact .x (.base (.frz hs))
    · exact .x (.kList hk hc)
  | tup hs ha =>
    rcases hs with (hs | ⟨o, hs⟩) | ⟨o, its, n, hk, hc, _⟩
    · exact .x (.base (.tup hs))
    · exact .x (.fTuple hs)
    · exact .x (.kTuple hk hc)
mutual
/-- at most 1000 items in each list and tuple -/
def smallD : PyData → Bool
  | .list xs => decide (xs.length ≤ 1000) && smallAll xs
  | .tuple xs => decide (xs.length ≤ 1000) && smallAll xs
  | .dict _ => false
  | .none => true
  | .bool _ => true
  | .int _ => true
  | .str _ => true
def smallAll : List PyData → Bool
  | [] => true
  | x :: xs => smallD x && smallAll xs
end
theorem small_lst {ds : List PyData} (h : smallD (.list ds) = true) : ds.length ≤ 1000 ∧ smallAll ds = true := by
  simp only [smallD, Bool.and_eq_true, decide_eq_true_eq] at h
  exact h
theorem small_tup {ds : List PyData} (h : smallD (.tuple ds) = true) : ds.length ≤ 1000 ∧ smallAll ds = true := by
  simp only [smallD, Bool.and_eq_true, decide_eq_true_eq] at h
  exact h
theorem small_mem : ∀ {ds : List PyData} {i : Nat} {d : PyData}, smallAll ds = true → ds[i]? = some d → smallD d = true
  | [], i, d, _, e => by simp at e
  | x :: xs, 0, d, h, e => by
    simp at e
    subst e
    simp only [smallAll, Bool.and_eq_true] at h
    exact h.1
  | x :: xs, i + 1, d, h, e => by
    simp only [smallAll, Bool.and_eq_true] at h
    exact small_mem (ds := xs) (i := i) h.2 (by simpa using e)
/-- the heap without the objects at B -/
def hide (B : List Addr) (H : Hp) : Hp := fun b => if b ∈ B then none else H b
theorem hide_of {B : List Addr} {H : Hp} {b : Addr} {o : HO} (h : hide B H b = some o) : H b = some o ∧ b ∉ B := by
  unfold hide at h
  by_cases e : b ∈ B
  · rw [if_pos e] at h; cases h
  · rw [if_neg e] at h; exact ⟨h, e⟩
theorem hide_in {B : List Addr} {H : Hp} {b : Addr} (h : b ∉ B) : hide B H b = H b := if_neg h
theorem hide_sub {B : List Addr} {H : Hp} : Same (hide B H) H := fun b o e => (hide_of e).1
theorem hide_same {B : List Addr} (e : Same H H') : Same (hide B H) (hide B H') := fun b o h => by
  obtain ⟨h1, h2⟩ := hide_of h
  rw [hide_in h2]
  exact e _ _ h1
theorem hide_more {B : List Addr} {D : Addr} : Same (hide (D :: B) H) (hide B H) := fun b o h => by
  obtain ⟨h1, h2⟩ := hide_of h
  rw [hide_in (fun z => h2 (List.mem_cons_of_mem _ z))]
  exact h1
theorem hide_upd {B : List Addr} {D : Addr} {o : HO} : hide (D :: B) (upd H D o) = hide (D :: B) H := by
  funext b
  unfold hide
  by_cases e : b ∈ D :: B
  · rw [if_pos e, if_pos e]
  · rw [if_neg e, if_neg e, upd_ne (fun z => e (by rw [z]; exact List.mem_cons_self))]
theorem hide_new {B : List Addr} {D : Addr} (h : H D = none) : hide (D :: B) H = hide B H := by
  funext b
  unfold hide
  by_cases e : b = D
  · subst e
    by_cases e2 : b ∈ B
    · rw [if_pos (List.mem_cons_self), if_pos e2]
    · rw [if_pos (List.mem_cons_self), if_neg e2, h]
  · by_cases e2 : b ∈ B
    · rw [if_pos (List.mem_cons_of_mem _ e2), if_pos e2]
    · rw [if_neg (fun z => (List.mem_cons.mp z).elim e e2), if_neg e2]
theorem hide_nil : hide [] H = H := by
  funext b
  exact if_neg (by simp)
end
section
variable {X : Cx}
def rTupA (K : PySem.W.Frag) : List V → Hp → VK → Prop := fun vs H Q => match vs with
  | [.ref p] => (∃ ys, SqL K H p ys ∧ ∀ l, H l = none → Q (.ref l) (upd H l (.tup ys))) ∨ ∃ ys, SqT K H p ys ∧ Q (.ref p) H
  | _ => False
theorem call_tupleA : CallR X (.type "tuple") (rTupA X.K) := call_tuple_of.imp fun xs H Q h => by
  unfold rTupA at h
  split at h
  · rcases h with ⟨ys, h1, h2⟩ | ⟨ys, h1, h2⟩
    · exact ⟨_, ys, rfl, .inl ⟨h1, h2⟩⟩
    · exact ⟨_, ys, rfl, .inr ⟨h1, h2⟩⟩
  · exact h.elim
def rListA (K : PySem.W.Frag) : List V → Hp → VK → Prop := fun vs H Q => match vs with
  | [.ref p] => ∃ ys, (SqL K H p ys ∨ SqT K H p ys) ∧ ∀ l, H l = none → Q (.ref l) (upd H l (.lst ys))
  | _ => False
theorem call_listA : CallR X (.type "list") (rListA X.K) := call_list_of.imp fun xs H Q h => by
  unfold rListA at h
  split at h
  · obtain ⟨ys, h1, h2⟩ := h
    exact ⟨_, ys, rfl, h1, h2⟩
  · exact h.elim
end
/-- a def that other defs of the plain layer call -/
structure OwnK (P : Program) (w : World) (K : PySem.W.Frag) (mg : Str → Option Value) (base : Heap) (CX : CXT) (x : Str) (k : Nat) (ps : List Str) (sp : Sp) : Prop where
  ex : ∃ f fd, FnOk P w K mg base CX k f fd ps sp ∧ mg x = some (.ref f) ∧ PySem.W.keepIn K (.ref f) = true ∧ Binds K fd ps []
theorem OwnK.g {P : Program} {w : World} {K : PySem.W.Frag} {mg : Str → Option Value} {base : Heap} {CX : CXT} {x : Str} {k : Nat} {ps : List Str} {sp : Sp} (O : OwnK P w K mg base CX x k ps sp) : Own P w K mg base CX x k ps sp := by
  obtain ⟨f, fd, F, r⟩ := O.ex
  exact ⟨f, fd, FnG.of F, r⟩
section
variable {X : Cx} {CX : CXT} {k j : Nat} {ps : List Str} {sp : Sp} {x : Str} {p pos : Pos} {e : Expr} {es : List Expr} {t : TA}
theorem pe_ownK (O : OwnK X.prog X.w X.K X.mg X.base CX0 x k ps sp) (hr : Room j X.A) (ha : PA X (e :: es) t) (hk : k ≤ j := by decide) (hg : Gl X x := by rfl) (hdb : (x == ("__debug__" : Str)) = false := by decide)
    (he : starEach (e :: es) X.env = (false, eval e X.env) :: starEach es X.env := by rfl) (hpl : (backTo pos (starEach es X.env)).any (·.1) = false := by rfl) : PE X (.Call (.Name x p) (e :: es) [] pos) (tCall sp [] E0 t) := by
  obtain ⟨f, fd, F, hm, hkp, hb⟩ := O.ex
  exact pe_call F (hr.mono hk) hg hm hkp hb .nil pass0 ha hdb he hpl
end
theorem pe_gref {X : Cx} {x : Str} {a : Addr} {pos : Pos} (hm : X.mg x = some (.ref a)) (hg : Gl X x := by rfl) (hd : (x == ("__debug__" : Str)) = false := by decide) : PE X (.Name x pos) (tC (.ref a)) := pe_glob hg hm rfl hd
end L2

set_option Elab.async false
set_option linter.all false
set_option maxRecDepth 100000
set_option maxHeartbeats 4000000
/-! try: raise C('..') except x as n: a suite that asks str(n). -/
namespace L2
open PySem PySem.Spec PyProof.Rows PySem.KX
/-- an exception of C without a dict whose arguments lie at t -/
def Zm (C t : Addr) : Obj → Prop := fun o => o.cls = .ref C ∧ o.dict = none ∧ ∀ vs : Array Value, o.data = .fields vs → vs[0]? = some (.ref t)
theorem Zm.steady {C t : Addr} : PXN.Steady1 (Zm C t) := fun o v h => by
  refine ⟨PXN.steady_cls o v h.1, PXN.steady_dict o v h.2.1, ?_⟩
  have h3 := h.2.2
  obtain ⟨c, d, dt, sl⟩ := o
  cases dt with
  | fields vs0 =>
    intro vs e
    have e2 : vs0.setIfInBounds 1 v = vs := Data.fields.inj e
    have e3 : (vs0.setIfInBounds 1 v)[0]? = vs0[0]? := by
      first
      | exact Array.getElem?_setIfInBounds_ne (by decide)
      | simp [Array.getElem?_setIfInBounds]
    rw [← e2, e3]
    exact h3 vs0 rfl
  | _ =>
    intro vs e
    cases e
section
variable {X : Cx} {x n y : Str} {c : Value} {i j : Nat} {suite : List Stmt} {b₀ : Stmt} {np p p2 pos pos' pos1 pos2 : Pos} {m : Str} {ts : Addr → Addr → TS} {C : Addr} {bmB : List Value} {B newId initId : String}
theorem ps_try_msg (hs : X.stack = X.env :: X.outer) (hf : X.env.frame = some X.env.locals) (hN : X.N.Nodup) (hi : X.N[i]? = some n) (hln : X.env.kindOf n = some .local) (hc : Names X x c) (hcalm : X.calm = true)
    (FB : ExcBaseFacts B newId initId bmB) (q : PySem.W.excIn X.K C bmB newId = true) (gC : X.mg y = some (.ref C)) (kC : PySem.W.keepIn X.K (.ref C) = true) (r : Raises X (.ref C)) (hb1 : PySem.W.exmOne X.K (.ref C) c = some true)
    (hsu : ∀ (a : Addr) (oe : Obj) (t : Addr) (pn : List (Addr × Obj)), Zm C t oe → (∃ vs, oe.data = .fields vs) → PSs (X.suite a ((a, oe) :: pn)) (b₀ :: suite) (ts a t)) (hg : Gl X y := by rfl) (hdb : (y == ("__debug__" : Str)) = false := by decide) :
    PS X (.Try [.Raise (some (.Call (.Name y p) [.Constant (.str m) j p2] [] pos1)) none pos2] [.ExceptHandler (some (.Name x np)) (some n) (b₀ :: suite) pos'] [] [] pos)
      (fun D σ H => ∀ t a, H t = none → H a = none → a ≠ t → ts a t { nx := fun σ' H' => D.nx (σ'.set i none) H', rt := D.rt, bk := fun σ' H' => D.bk (σ'.set i none) H', ct := fun σ' H' => D.ct (σ'.set i none) H' } (σ.set i (some (.ref a))) (upd H t (.tup [.str m]))) := by
  refine ⟨fun pins s σ H D I h => ?_⟩
  have ok := I.ok
  have hfr : X.A.frames = some (X.env :: X.outer) := by rw [ok.frames, hs]
  have hloc : Loc X.env.scope n := .inl hln
  refine wpAny_Try_except ?_
  refine wpAny_execs_cons ?_
  show wpAny _ _ (do standAt pos2; raiseStmt X.env (some (do let v ← eval (.Call (.Name y p) [.Constant (.str m) j p2] [] pos1) X.env; standAt pos2; pure v)) none) _ _ _
  refine wpAny_bind (wpAny_standAt (raise_made (I.ok.hd hcalm) (wpAny_bind ?_)))
  refine wpAny_Call_Name_kw (ld_glob I hg gC ?_ hdb)
  refine PySem.W.callWith_K (h₀ := X.base) I.ok.mod.kin kC ?_ (by rfl) (by rfl)
  show wpAny _ _ (spliced ((false, eval (.Constant (.str m) j p2) X.env) :: backTo pos1 (starEach [] X.env))) _ _ s
  refine Calls.spliced_cons (Calls.Constant_str ?_)
  have I1 : Inv X pins σ H { s with toks := s.toks + 1 } := I.tok _
  refine Calls.spliced_nil ⟨I1.kIn, ?_⟩
  show wpAny _ _ (call (.ref C) [Value.str m s.toks]) _ _ _
  obtain ⟨bm, N, nm, qn, bs, hdct, sn, sub, ab, col, dd, k0, k1, k2, k3, k5, mN, hC, hN', hni, T⟩ := exc_obj I1.kIn q
  refine wpAny_call_exc_subT FB T hC hN' hni (fun h' a hm => ?_) (by show 1 ≤ sizeLine; rw [sizeLine_eq]; omega)
  refine wpAny_bind (wpAny_standAt (wpAny_pure ?_))
  have na : H a = none := I1.hok.gone hm.new
  obtain ⟨t, ha, hnt, ht⟩ := hm.there
  have htn : H t = none := I1.hok.gone hnt
  have hat : a ≠ t := fun z => by
    rw [z, ht] at ha
    cases ha
  obtain ⟨r1, r2⟩ := r (model X.prog X.w) h' (I1.kIn.keeps hm.keeps)
  refine ⟨a, _, _, .ref C, rfl, ha, rfl, rfl, rfl, r1, r2, ?_⟩
  -- the state without the exception
  obtain ⟨G, g1, g2⟩ := restrict h' fun b => decide (b ≠ a)
  have gk : ∀ b, b ≠ a → G.get? b = h'.get? b := fun b hb => g1 b (decide_eq_true hb)
  have ge : G.get? a = none := g2 a (by simp)
  have gs : ∀ b o, G.get? b = some o → h'.get? b = some o := fun b o e => by
    by_cases hb : b = a
    · rw [hb, ge] at e; cases e
    · exact (gk b hb).symm.trans e
  have keepG : ∀ b o, s.heap.get? b = some o → G.get? b = some o := fun b o z => by
    have nb : b ≠ a := fun w => by rw [w, hm.new] at z; cases z
    rw [gk b nb]
    exact hm.keeps b o z
  have ntb : ∀ b o, s.heap.get? b = some o → b ≠ t := fun b o z w => by rw [w, hnt] at z; cases z
  have ok2 : HOk X.prog X.w (upd H t (.tup [.str m])) G := fun b o z => by
    by_cases hb : b = t
    · subst hb
      rw [upd_same] at z
      cases z
      refine ⟨by show 1 ≤ sizeLine; rw [sizeLine_eq]; omega, [Value.str m s.toks], .cons ⟨_, rfl⟩ .nil, ⟨_, (gk b (Ne.symm hat)).trans ht, rfl, _, rfl⟩⟩
    · rw [upd_ne hb] at z
      exact (I1.hok b o z).stay (fun c w' _ w => keepG c w' w) (fun c w => by rw [upd_ne (ne_of_none w htn)]; exact w) fun c xs w => by rw [upd_ne (ne_of_none w htn)]; exact w
  have un : Un X.fs [] H (upd H t (.tup [.str m])) s.heap G := {
    keep := fun b o z nn _ _ => keepG b o z
    slot := fun b o z nn _ _ => ⟨o.slots, keepG b o z⟩
    free := fun b o z nn _ => by rw [upd_ne (ntb b o z)]; exact nn
    there := fun b o z _ => ⟨o, keepG b o z⟩
    tups := fun b xs z => by rw [upd_ne (ne_of_none z htn)]; exact z
    frzs := fun b o u z => by rw [upd_ne (ne_of_none z htn)]; exact z
    tbls := fun b ps z => ⟨#[], by rw [upd_ne (ne_of_none z htn), z]; simp⟩ }
  have J : Inv X pins σ (upd H t (.tup [.str m])) { s with heap := G, toks := s.toks + 1 } := I.un (t' := s.toks + 1) un ok2
  have naH : (upd H t (.tup [.str m])) a = none := by rw [upd_ne hat]; exact na
  have sky' : L2.Sky (PySem.W.hideAll G (frs X.stack)) (X.env :: X.outer) a (Zm C t) X.env.locals h' := by
    refine .inl ⟨fun b o e => gs b o (PySem.W.of_hideAll _ e), ?_, ?_, _, _, ha, ⟨rfl, rfl, fun vs e => ?_⟩, rfl, rfl⟩
    · cases qq : (PySem.W.hideAll G (frs X.stack)).get? a with
      | none => rfl
      | some o =>
        have z := PySem.W.of_hideAll _ qq
        rw [ge] at z; cases z
    · rw [← hs]
      exact Heap.FunFrames.of_keeps (fun b o e _ => ⟨o, gs b o e, rfl⟩) (funFrames_none J.stack fun b hb => PySem.W.hideAll_none _ hb)
    · cases e
      rfl
  have nb : ∀ b o, G.get? b = some o → b ∉ frs X.stack → (PySem.W.hideAll G (frs X.stack)).get? b = some o := fun b o e hb => PySem.W.hideAll_get _ e hb
  have up : G.UpToSlots h' := Heap.UpToSlots.of_keeps gs
  show wpAny (model X.prog X.w) X.A (noteFrame (.ref a) X.env) _ _ _
  refine L2N.Sky.land Zm.steady hfr hf sky' fun h3 fl3 up3 => ?_
  have J3 : Inv X pins σ (upd H t (.tup [.str m])) { s with heap := h3, toks := s.toks + 1 } := J.landed (s' := { s with heap := h3, toks := s.toks + 1 }) nb fl3.1 (up.trans up3) rfl I.bare
  obtain ⟨oe3, vs3, he3, hz3, hd3⟩ := fl3.there
  have notFr : ∀ {h : Heap} {o : Obj} {vs : Array Value}, h.FunFrames (PySem.W.hideAll G (frs X.stack)) (X.env :: X.outer) → h.get? a = some o → o.data = .fields vs → a ∉ frs (X.env :: X.outer) := fun {h o vs} ff e dd hm => by
    obtain ⟨_, o', e', hnf⟩ := ff.mem hm
    rw [e] at e'; cases e'
    exact hnf _ dd
  have nfr := notFr fl3.2.2.1 he3 hd3
  have nL : a ≠ X.env.locals := fun z => nfr (List.mem_filterMap.mpr ⟨X.env, List.mem_cons_self, by rw [hf, z]⟩)
  have nF : a ∉ X.fs := fun hm => by
    obtain ⟨e, he, q⟩ := List.mem_filterMap.mp hm
    exact nfr (List.mem_filterMap.mpr ⟨e, List.mem_cons_of_mem _ he, q⟩)
  have S3 := J3.suite he3 hd3 naH nL nF
  refine wpAny_handleBy_cons (codeAny_handlers_test ?_) (by intro q; cases q)
  have LT : PySem.W.Looks (model X.prog X.w) h3 (typeOf (.ref a)) (.ref C) := fun A Q E s k q => wpAny_typeOf_ref (k _ _ he3) (by rw [hz3.1]; exact q)
  have LM := PySem.W.exm_one (M := model X.prog X.w) (J3.kIn) LT hb1
  have test : ∀ {Q : Value → Shared → Prop} {E : Value → Shared → Prop}, Q c { s with heap := h3, toks := s.toks + 1 } → wpAny (model X.prog X.w) (X.A.mark (some (.ref a))) (eval (.Name x np) X.env) Q E { s with heap := h3, toks := s.toks + 1 } := fun {Q E} q => by
    obtain ⟨hg, hdbg, hm | ⟨hm, hv, hnn⟩⟩ := hc
    · exact ld_glob (X := X.suite a ((a, oe3) :: (X.pn ++ pins))) S3 hg hm q hdbg
    · exact ld_blt (X := X.suite a ((a, oe3) :: (X.pn ++ pins))) S3 hg hm hv q hnn hdbg
  refine test (LM.here ?_)
  refine codeAny_handlers_suite_as ?_
  refine HandSPX.lands_againZ fl3 fun h4 fl4 up4 => ?_
  have J4 : Inv X pins σ (upd H t (.tup [.str m])) { s with heap := h4, toks := s.toks + 1 } := J.landed (s' := { s with heap := h4, toks := s.toks + 1 }) nb fl4.1 ((up.trans up3).trans up4) rfl I.bare
  obtain ⟨oe4, vs4, he4, hz4, hd4⟩ := fl4.there
  have S4 := J4.suite he4 hd4 naH nL nF
  refine store_ok (X := X.suite a ((a, oe4) :: (X.pn ++ pins))) (v := .ref a) S4 hN hi hloc rfl (fun s5 S5 => ?_) (.inr hln)
  refine wpAny_mono ((hsu a oe4 t (X.pn ++ pins) hz4 ⟨_, hd4⟩).run [] s5 _ _ _ S5 (h t a htn na hat)) (fun f s6 hsp => ?_) (fun _ _ z => False.elim z)
  have end_ : ∀ {σ6 : St} {H6 : Hp} {Q : Shared → Prop}, Inv (X.suite a ((a, oe4) :: (X.pn ++ pins))) [] σ6 H6 s6 → (∀ s7, Inv X pins (σ6.set i none) H6 s7 → Q s7) →
      wpAny (model X.prog X.w) X.A (do bindName X.env n .none; unbindBehindTheSuite X.env n pos') (fun _ s7 => Q s7) X.xe s6 := fun {σ6 H6 Q} S6 hq => gone_ok (S6.unsuite ok) hN hi hln hq
  cases f with
  | next =>
    obtain ⟨σ6, H6, S6, q6⟩ := hsp
    exact end_ S6 fun s7 J7 => ⟨_, _, J7, q6⟩
  | brk =>
    obtain ⟨σ6, H6, S6, q6⟩ := hsp
    exact end_ S6 fun s7 J7 => ⟨_, _, J7, q6⟩
  | cont =>
    obtain ⟨σ6, H6, S6, q6⟩ := hsp
    exact end_ S6 fun s7 J7 => ⟨_, _, J7, q6⟩
  | ret u =>
    obtain ⟨v6, σ6, H6, S6, r6, q6⟩ := hsp
    exact end_ S6 fun s7 J7 => ⟨_, _, _, J7, r6, q6⟩
/-- str(n) in the suite -/
def rStrM (a t : Addr) : List V → Hp → VK → Prop := fun xs H Q => ∃ m, xs = [.ref a] ∧ H t = some (.tup [.str m]) ∧ Q (.str m) H
theorem call_strM {a t : Addr} {oe : Obj} {pn : List (Addr × Obj)} (hu : X.A.units + 64 < cLine) (hz : Zm C t oe) (hf : ∃ vs, oe.data = .fields vs) (hstr : PySem.W.findIn X.K (.ref C) "__str__" = some (some (.builtin "BaseException.__str__"))) (hB : PySem.W.subIn X.K (.ref C) (.type "BaseException") = some true) :
    CallR (X.suite a ((a, oe) :: pn)) (.type "str") (rStrM a t) := by
  intro pins s σ H xs us Q I r h
  obtain ⟨m, rfl, et, q⟩ := h
  obtain ⟨u, rfl, ru⟩ := vals1 r
  obtain rfl : u = Value.ref a := ru
  obtain ⟨ho, _⟩ := I.pin (a, oe) (List.mem_append_left _ List.mem_cons_self)
  obtain ⟨vs, hv⟩ := hf
  obtain ⟨its, rv, ⟨ot, hot, hc, n, hd⟩, _⟩ := I.tuple (SqT.of et)
  cases rv with
  | cons r1 r2 =>
    cases r2
    obtain ⟨tk, rfl⟩ := r1
    exact PySem.P.str_of_C_one (by show X.A.units + 2 < cLine; omega) ⟨I.kIn, oe, vs, ho, hz.1, hv, hz.2.2 vs hv⟩ ⟨ot, n, hot, hc, hd⟩ hstr hB ⟨.str m, H, I, ⟨tk, rfl⟩, q⟩
end
end L2

set_option Elab.async false
set_option linter.all false
set_option maxRecDepth 100000
set_option maxHeartbeats 4000000
namespace L2
open PySem PySem.Spec PyProof.Rows PySem.KX
/-- a reading, told of something stronger -/
def tUp (t : TE) : TE := fun σ H Q => ∃ Q0 : VK, t σ H Q0 ∧ ∀ v H', Q0 v H' → Q v H'
theorem PE.up {X : Cx} {e : Expr} {t : TE} (h : PE X e t) : PE X e (tUp t) :=
  ⟨fun pins s σ H Q I ⟨Q0, h0, k⟩ => wpAny_mono (h.run pins s σ H Q0 I h0) (fun u s1 ⟨v, H1, I1, r1, q1⟩ => ⟨v, H1, I1, r1, k v H1 q1⟩) fun _ _ z => z⟩
/-- lists, tuples stay -/
def Kept (H H' : Hp) : Prop := ∀ b, (∀ xs, H b = some (.lst xs) → H' b = some (.lst xs)) ∧ (∀ xs, H b = some (.tup xs) → H' b = some (.tup xs)) ∧ ∀ o u, H b = some (.frz o u) → H' b = some (.frz o u)
theorem kept_ext {H H' : Hp} {b : Addr} {g : Heap → Prop} (e : H b = some (.ext g)) : (∀ xs, H b = some (.lst xs) → H' b = some (.lst xs)) ∧ (∀ xs, H b = some (.tup xs) → H' b = some (.tup xs)) ∧ ∀ o u, H b = some (.frz o u) → H' b = some (.frz o u) := by
  rw [e]
  exact ⟨(fun _ z => nomatch z), (fun _ z => nomatch z), (fun _ _ z => nomatch z)⟩
mutual
theorem Dp.keep {K : PySem.W.Frag} {H H' : Hp} (e : Kept H H') : ∀ (d : PyData) (v : V), Dp K H v d → Dp K H' v d
  | .none, _, h => by cases h; exact .non
  | .bool b, _, h => by cases h; exact .bl b
  | .int i, _, h => by cases h; exact .int i
  | .str x, _, h => by cases h; exact .str x
  | .list ds, _, h => by
    cases h with
    | lst hs ha =>
      refine .lst ?_ (DpAll.keep e ds _ ha)
      rcases hs with (hs | ⟨o, hs⟩) | hs
      · exact .inl (.inl ((e _).1 _ hs))
      · exact .inl (.inr ⟨o, (e _).2.2 _ _ hs⟩)
      · exact .inr hs
  | .tuple ds, _, h => by
    cases h with
    | tup hs ha =>
      refine .tup ?_ (DpAll.keep e ds _ ha)
      rcases hs with (hs | ⟨o, hs⟩) | hs
      · exact .inl (.inl ((e _).2.1 _ hs))
      · exact .inl (.inr ⟨o, (e _).2.2 _ _ hs⟩)
      · exact .inr hs
  | .dict _, _, h => by cases h
theorem DpAll.keep {K : PySem.W.Frag} {H H' : Hp} (e : Kept H H') : ∀ (ds : List PyData) (vs : List V), DpAll K H vs ds → DpAll K H' vs ds
  | [], _, h => by cases h; exact .nil
  | d :: ds, _, h => by
    cases h with
    | cons h1 h2 => exact .cons (Dp.keep e d _ h1) (DpAll.keep e ds _ h2)
end
/-- C.__init__(self, v): the one field is a copy of v -/
def spIni (K : PySem.W.Frag) (C : Addr) (f : Str) : Sp := fun vs H Q _ => ∃ (a : Addr) (v : V) (d : PyData), vs = [.ref a, v] ∧ H a = some (exo a C none) ∧ Dp K (hide [a] H) v d ∧ d.depth ≤ 10 ∧ smallD d = true ∧
  ∀ (H' : Hp) (dx : Addr) (v' : V), (∀ b o, b ≠ a → H b = some o → H' b = some o) → H dx = none → H' a = some (exo a C (some dx)) → H' dx = some (exd dx [(f, v')]) → Dp K H' v' d → Q .non H'
/-- what a caller knows of an own exception class that keeps a copy of its one argument -/
structure ErrV (P : Program) (w : World) (K : PySem.W.Frag) (mg : Str → Option Value) (base : Heap) (x : Str) (C : Addr) (f : Str) (Bi newId initId : String) (bm : List Value) : Prop where
  B : XB Bi newId initId bm
  T : XCls K C newId bm
  xi : XI K C
  xc : XfC K C
  hno : PySem.W.findIn K (.ref C) f = some none
  g : mg x = some (.ref C)
  ini : ∃ fI fd, PySem.W.findIn K (.ref C) "__init__" = some (some (.ref fI)) ∧ PySem.W.typeIn K (.ref fI) = some (.type "function") ∧ FnOk P w K mg base CX0 12 fI fd ["self", f] (spIni K C f) ∧ Binds K fd ["self", f] []
/-- C(e) as a value -/
def tErrV (K : PySem.W.Frag) (C : Addr) (f : Str) (te : TE) : TE := fun σ H Q => te σ H fun v H1 => ∃ d, Dp K H1 v d ∧ d.depth ≤ 10 ∧ smallD d = true ∧
  ∀ (a dx : Addr) (v' : V) (H' : Hp), Same H1 H' → H1 a = none → H' a = some (exo a C (some dx)) → H' dx = some (exd dx [(f, v')]) → Dp K H' v' d → Q (.ref a) H'
/-- raise C(e) -/
def tErrX (K : PySem.W.Frag) (C : Addr) (f : Str) (te : TE) : St → Hp → XK → Prop := fun σ H Q => te σ H fun v H1 => ∃ d, Dp K H1 v d ∧ d.depth ≤ 10 ∧ smallD d = true ∧
  ∀ (dx : Addr) (v' : V) (H' : Hp), Same H1 H' → H1 dx = none → H' dx = some (.xd [(f, v')]) → Dp K H' v' d → Q (.ref C) (some dx) H'
section
variable {X : Cx} {e : Expr} {te : TE} {f : Str} {p pos : Pos} {Bi newId initId : String} {bm : List Value} {x : Str} {C : Addr} {j : Nat}
theorem PMk.imp {t t' : St → Hp → XK → Prop} (h : PMk X e t) (k : ∀ σ H Q, t' σ H Q → t σ H Q) : PMk X e t' := fun pins s σ H Q I q => h pins s σ H Q I (k σ H Q q)
theorem ini_h {H1 : Hp} {K : PySem.W.Frag} {a : Addr} {v : V} {d : PyData} {o : HO} (n : H1 a = none) (h : Dp K H1 v d) : Dp K (hide [a] (upd H1 a o)) v d := by
  rw [hide_upd, hide_new n, hide_nil]
  exact h
theorem ini_same {H1 H' : Hp} {a : Addr} {o : HO} (n : H1 a = none) (k : ∀ b o', b ≠ a → upd H1 a o b = some o' → H' b = some o') : Same H1 H' := fun b o' q => by
  have hb : b ≠ a := ne_of_none q n
  exact k b o' hb (by rw [upd_ne hb]; exact q)
theorem pe_errV (E : ErrV X.prog X.w X.K X.mg X.base x C f Bi newId initId bm) (hr : RoomG j X.A) (he : PE X e te) (hj : 13 ≤ j := by decide) (hg : Gl X x := by rfl)
    (hdb : (x == ("__debug__" : Str)) = false := by decide) (hs : starEach [e] X.env = (false, eval e X.env) :: starEach [] X.env := by rfl) (hpl : (backTo pos (starEach [] X.env)).any (·.1) = false := by rfl) :
    PE X (.Call (.Name x p) [e] [] pos) (tErrV X.K C f te) := by
  obtain ⟨fI, fd, iC, tI, F1, hb⟩ := E.ini
  refine (pe_oexX E.B E.T iC tI F1 (hr.r.mono hj) hb pass0 E.g (pa_cons he.up pa_nil hs) hg hdb hs hpl).imp fun σ H Q h => ?_
  refine ⟨_, h, fun v H1 ⟨d, hd, h1, h2, k⟩ => ⟨by show 1 ≤ 1000; omega, fun a na => ?_⟩⟩
  refine ⟨a, v, d, rfl, upd_same, ini_h na hd, h1, h2, fun H' dx v' kp _ ea ed hv => ⟨rfl, ?_⟩⟩
  exact k a dx v' H' (ini_same na kp) na ea ed hv
theorem pmk_errV (E : ErrV X.prog X.w X.K X.mg X.base x C f Bi newId initId bm) (hr : RoomG j X.A) (he : PE X e te) (hj : 13 ≤ j := by decide) (hg : Gl X x := by rfl)
    (hdb : (x == ("__debug__" : Str)) = false := by decide) (hs : starEach [e] X.env = (false, eval e X.env) :: starEach [] X.env := by rfl) (hpl : (backTo pos (starEach [] X.env)).any (·.1) = false := by rfl) :
    PMk X (.Call (.Name x p) [e] [] pos) (tErrX X.K C f te) := by
  obtain ⟨fI, fd, iC, tI, F1, hb⟩ := E.ini
  refine PMk.imp (pmk_oexX E.B E.T iC tI F1 (hr.r.mono hj) hb pass0 E.g (pa_cons he.up pa_nil hs) hg hdb hs hpl) fun σ H Q h => ?_
  refine ⟨_, h, fun v H1 ⟨d, hd, h1, h2, k⟩ => ⟨by show 1 ≤ 1000; omega, fun a na => ?_⟩⟩
  refine ⟨a, v, d, rfl, upd_same, ini_h na hd, h1, h2, fun H' dx v' kp nx ea ed hv => ⟨rfl, dx, [(f, v')], ea, ed, ?_, ?_⟩⟩
  · by_cases hd : dx = a
    · rw [hd, upd_same] at nx; cases nx
    · rw [upd_ne hd] at nx; exact nx
  · have ndx : dx ≠ a := fun hd => by rw [hd, upd_same] at nx; cases nx
    have n1 : H1 dx = none := by rw [upd_ne ndx] at nx; exact nx
    have s1 := ini_same na kp
    refine k dx v' _ (fun b o q => ?_) n1 upd_same (Dp.keep (fun b => ?_) _ _ hv)
    · have hb1 : b ≠ dx := ne_of_none q n1
      have hb2 : b ≠ a := ne_of_none q na
      rw [upd_ne hb1]
      unfold del
      rw [if_neg hb2]
      exact s1 b o q
    · by_cases hb1 : b = dx
      · subst hb1
        exact kept_ext ed
      · by_cases hb2 : b = a
        · subst hb2
          exact kept_ext ea
        · rw [upd_ne hb1]
          unfold del
          rw [if_neg hb2]
          exact ⟨fun _ z => z, fun _ z => z, fun _ _ z => z⟩
end
end L2

set_option Elab.async false
set_option linter.all false
set_option maxRecDepth 100000
set_option maxHeartbeats 4000000
/-! Readings that tell the new heap by what stays and what is new, not by its making. -/
namespace L2
open PySem PySem.Spec PyProof.Rows PySem.KX
def tUpA (t : TA) : TA := fun σ H Q => ∃ Q0 : List V → Hp → Prop, t σ H Q0 ∧ ∀ v H', Q0 v H' → Q v H'
theorem PA.up {X : Cx} {es : List Expr} {t : TA} (h : PA X es t) : PA X es (tUpA t) :=
  ⟨fun pos pins s σ H Q I ⟨Q0, h0, k⟩ => wpAny_mono (h.run pos pins s σ H Q0 I h0) (fun u s1 ⟨v, H1, I1, r1, q1⟩ => ⟨v, H1, I1, r1, k v H1 q1⟩) fun _ _ z => z⟩
theorem small_size {n : Nat} (h : n ≤ 1000000) : n ≤ sizeLine := by rw [sizeLine_eq]; omega
/-- [e, ..] -/
def tLstS (t : TA) : TE := fun σ H Q => t σ H fun xs H1 => xs.length ≤ 1000000 ∧ ∀ p H', Same H1 H' → H1 p = none → H' p = some (.lst xs) → Q (.ref p) H'
def tTupS (t : TA) : TE := fun σ H Q => t σ H fun xs H1 => xs.length ≤ 1000000 ∧ ∀ p H', Same H1 H' → H1 p = none → H' p = some (.tup xs) → Q (.ref p) H'
section
variable {X : Cx} {e : Expr} {es : List Expr} {te : TE} {t : TA} {p pos : Pos}
theorem pe_lstS (h : PA X es t) : PE X (.List es pos) (tLstS t) := (pe_lst h.up).imp fun σ H Q q => ⟨_, q, fun xs H1 ⟨l, k⟩ => ⟨small_size l, fun p n => k p _ ((Same.refl _).new n) n upd_same⟩⟩
theorem pe_tupS {x1} (h : PA X es t) : PE X (.Tuple es x1 pos) (tTupS t) := (pe_tup h.up).imp fun σ H Q q => ⟨_, q, fun xs H1 ⟨l, k⟩ => ⟨small_size l, fun p n => k p _ ((Same.refl _).new n) n upd_same⟩⟩
end
/-- + -/
def rAddS (K : PySem.W.Frag) : R2 := fun x y H Q => match x, y with
  | .int i, .int j => Q (.int (i + j)) H
  | .int i, .bl k => Q (.int (i + b2i k)) H
  | .str a, .str b => a.length + b.length ≤ 1000000 ∧ Q (.str (a ++ b)) H
  | .ref a, .ref b => (∃ xs ys, H a = some (.lst xs) ∧ H b = some (.lst ys) ∧ xs.length + ys.length ≤ 1000000 ∧ ∀ p H', Same H H' → H p = none → H' p = some (.lst (xs ++ ys)) → Q (.ref p) H') ∨
    ∃ xs ys, SqT K H a xs ∧ SqT K H b ys ∧ xs.length + ys.length ≤ 1000000 ∧ ∀ r H', Same H H' → SqT K H' r (xs ++ ys) → Q (.ref r) H'
  | _, _ => False
theorem op_addS {X : Cx} : OpR X (binaryOp .Add) (rAddS X.K) := op_addA.imp fun x y H Q h => by
  unfold rAddS at h
  split at h
  · exact h
  · exact h
  · exact ⟨small_size h.1, h.2⟩
  · rcases h with ⟨xs, ys, h1, h2, l, k⟩ | ⟨xs, ys, h1, h2, l, k⟩
    · exact .inl ⟨_, _, xs, ys, rfl, rfl, h1, h2, small_size l, fun p n => k p _ ((Same.refl _).new n) n upd_same⟩
    · refine .inr ⟨_, _, xs, ys, rfl, rfl, h1, h2, small_size l, fun e => k _ _ (Same.refl _) ?_, fun _ e => k _ _ (Same.refl _) ?_, fun _ _ p n => k p _ ((Same.refl _).new n) (SqT.of upd_same)⟩
      · rw [e]; exact h2
      · rw [e, List.append_nil]; exact h1
  · exact h.elim
/-! ### exceptions as values -/
/-- an exception of C made with the text t alone -/
def MsgAt (H : Hp) (C : Addr) (t : Str) (v : V) : Prop := ∃ a tt, v = .ref a ∧ H a = some (exM C tt a) ∧ H tt = some (.tup [.str t])
/-- an exception of C that keeps d as f -/
def ValAt (K : PySem.W.Frag) (H : Hp) (C : Addr) (f : Str) (d : PyData) (v : V) : Prop := ∃ a dx v', v = .ref a ∧ H a = some (exo a C (some dx)) ∧ H dx = some (exd dx [(f, v')]) ∧ Dp K H v' d
theorem MsgAt.same {H H' : Hp} {C : Addr} {t : Str} {v : V} (e : Same H H') (h : MsgAt H C t v) : MsgAt H' C t v := by
  obtain ⟨a, tt, h1, h2, h3⟩ := h
  exact ⟨a, tt, h1, e _ _ h2, e _ _ h3⟩
theorem ValAt.same {K : PySem.W.Frag} {H H' : Hp} {C : Addr} {f : Str} {d : PyData} {v : V} (e : Same H H') (h : ValAt K H C f d v) : ValAt K H' C f d v := by
  obtain ⟨a, dx, v', h1, h2, h3, h4⟩ := h
  exact ⟨a, dx, v', h1, e _ _ h2, e _ _ h3, Dp.same e _ _ h4⟩
theorem MsgAt.ty {K : PySem.W.Frag} {H : Hp} {C : Addr} {t : Str} {v : V} (x : XI K C) (h : MsgAt H C t v) : TyE K H v (.ref C) := by
  obtain ⟨a, tt, rfl, h2, h3⟩ := h
  exact .m h2 x
theorem ValAt.ty {K : PySem.W.Frag} {H : Hp} {C : Addr} {f : Str} {d : PyData} {v : V} (x : XI K C) (h : ValAt K H C f d v) : TyE K H v (.ref C) := by
  obtain ⟨a, dx, v', rfl, h2, h3, _⟩ := h
  exact .o h2 h3 x
/-- C('..') as a value -/
def tMsg (C : Addr) (te : TE) : TE := fun σ H Q => te σ H fun v H1 => ∃ t, v = .str t ∧ ∀ u H', Same H1 H' → MsgAt H' C t u → Q u H'
/-- C(e) as a value, e kept -/
def tVal (K : PySem.W.Frag) (C : Addr) (f : Str) (te : TE) : TE := fun σ H Q => te σ H fun v H1 => ∃ d, Dp K H1 v d ∧ d.depth ≤ 10 ∧ smallD d = true ∧ ∀ u H', Same H1 H' → ValAt K H' C f d u → Q u H'
/-- what a caller knows of an own exception class without own __init__ -/
structure ErrM (K : PySem.W.Frag) (mg : Str → Option Value) (x : Str) (C : Addr) (newId : String) (bmB : List Value) : Prop where
  q : PySem.W.excIn K C bmB newId = true
  g : mg x = some (.ref C)
  k : PySem.W.keepIn K (.ref C) = true
  xi : XI K C
  hs : PySem.W.findIn K (.ref C) "__str__" = some (some (.builtin "BaseException.__str__"))
section
variable {X : Cx} {e : Expr} {te : TE} {f : Str} {p pos : Pos} {B Bi newId initId : String} {bm bmB : List Value} {x : Str} {C : Addr} {j : Nat}
theorem pe_msg (F : ExcBaseFacts B newId initId bmB) (E : ErrM X.K X.mg x C newId bmB) (he : PE X e te) (hg : Gl X x := by rfl) (hs : starEach [e] X.env = (false, eval e X.env) :: starEach [] X.env := by rfl) (hdb : (x == ("__debug__" : Str)) = false := by decide) :
    PE X (.Call (.Name x p) [e] [] pos) (tMsg C te) := (pe_excT F E.q E.g E.k he.up hg hs hdb).imp fun σ H Q h => by
  refine ⟨_, h, fun v H1 ⟨t, ev, k⟩ tt a n1 n2 ne => ?_⟩
  subst ev
  refine k _ _ (((Same.refl _).new n1).new ?_) ⟨a, tt, rfl, upd_same, by rw [upd_ne (Ne.symm ne)]; exact upd_same⟩
  rw [upd_ne ne]
  exact n2
theorem pe_val (E : ErrV X.prog X.w X.K X.mg X.base x C f Bi newId initId bm) (hr : RoomG j X.A) (he : PE X e te) (hj : 13 ≤ j := by decide) (hg : Gl X x := by rfl)
    (hdb : (x == ("__debug__" : Str)) = false := by decide) (hs : starEach [e] X.env = (false, eval e X.env) :: starEach [] X.env := by rfl) (hpl : (backTo pos (starEach [] X.env)).any (·.1) = false := by rfl) :
    PE X (.Call (.Name x p) [e] [] pos) (tVal X.K C f te) := (pe_errV E hr he.up hj hg hdb hs hpl).imp fun σ H Q h => by
  refine ⟨_, h, fun v H1 ⟨d, hd, h1, h2, k⟩ => ⟨d, hd, h1, h2, fun a dx v' H' s1 _ ea ed hv => ?_⟩⟩
  exact k _ _ s1 ⟨a, dx, v', rfl, ea, ed, hv⟩
/-- e.f, e an exception that keeps d as f -/
def tXKept (K : PySem.W.Frag) (f : Str) (te : TE) : TE := fun σ H Q => te σ H fun u H1 => ∃ C d, XfC K C ∧ PySem.W.findIn K (.ref C) f = some none ∧ ValAt K H1 C f d u ∧ ∀ v, Dp K H1 v d → Q v H1
theorem pe_xkept {n : Str} (he : PE X e te) (hb : attributeBase e n X.env (eval e X.env) = eval e X.env := by rfl) : PE X (.Attribute e n pos) (tXKept X.K n te) := (pe_attr he.up hb).imp fun σ H Q h => by
  refine ⟨_, h, fun u H1 ⟨C, d, h1, h2, ⟨a, dx, v', eu, ea, ed, hv⟩, k⟩ => ⟨a, C, dx, _, v', eu, ea, ed, h1, h2, ?_, k v' hv⟩⟩
  simp [List.lookup]
end
/-- l.append(e) -/
def tAppS (to te : TE) : TE := fun σ H Q => to σ H fun x H1 => ∃ l xs0, x = .ref l ∧ H1 l = some (.lst xs0) ∧ te σ H1 fun y H2 => ∃ xs, H2 l = some (.lst xs) ∧ xs.length ≤ 1000000 ∧ Q .non (upd H2 l (.lst (xs ++ [y])))
section
variable {X : Cx} {o e : Expr} {to te : TE} {apos cpos : Pos}
theorem pe_appS (ho : PE X o to) (he : PE X e te)
    (hbase : attributeBase o "append" X.env (eval o X.env) = eval o X.env := by rfl)
    (hfew : ((backTo cpos (starEach [e] X.env)).all (fun x => !x.1) && (backToKw cpos (keywordEach [] X.env)).all (fun x => x.1.isSome)
      && decide ([e].length + ([] : List Keyword).length + (if ([] : List Keyword).isEmpty then 0 else 1) < 30)) = true := by rfl)
    (hline : (apos.endLine == cpos.line) = true := by rfl) (hs : starEach [e] X.env = (false, eval e X.env) :: starEach [] X.env := by rfl) (hplain : (backTo cpos (starEach [] X.env)).any (·.1) = false := by rfl) :
    PE X (.Call (.Attribute o "append" apos) [e] [] cpos) (tAppS to te) :=
  (pe_bm PySem.F.plainAttrs_list PySem.F.slot_list_append PySem.F.type_list_append mt_append ho.up (pa_cons he.up pa_nil hs) hbase hfew hline hs hplain).imp fun σ H Q h => by
    refine ⟨_, h, fun x H1 ⟨l, xs0, ex, el, ht⟩ => ⟨?_, _, ht, fun y H2 ⟨xs, h2, hz, q⟩ => ⟨l, xs, y, ex, rfl, h2, ?_, q⟩⟩⟩
    · subst ex
      exact .inl ⟨rfl, _, SqL.of el⟩
    · rw [sizeLine_eq]; omega
end
end L2

set_option Elab.async false
set_option linter.all false
set_option maxRecDepth 100000
set_option maxHeartbeats 4000000
/-! Comprehensions, told by what each item is. -/
namespace L2
open PySem PySem.Spec PyProof.Rows PySem.KX
/-- the list D while a comprehension builds it -/
def Acc (R : Nat → V → Hp → Prop) (D : Addr) (H1 : Hp) (n : Nat) (H' : Hp) : Prop := ∃ acc, H' D = some (.lst acc) ∧ Same H1 H' ∧ acc.length = n ∧ ∀ j v, acc[j]? = some v → R j v (hide [D] H')
theorem Acc.start {R : Nat → V → Hp → Prop} {D : Addr} {H1 : Hp} (hD : H1 D = none) : Acc R D H1 0 (upd H1 D (.lst [])) := ⟨[], upd_same, (Same.refl H1).new hD, rfl, fun j v h => nomatch h⟩
theorem Acc.snoc {R : Nat → V → Hp → Prop} {D : Addr} {H1 H' H4 : Hp} {n : Nat} {y : V} (st : ∀ j v H H', Same H H' → R j v H → R j v H') (hD : H1 D = none) (hn : n < 1000000) (p : Acc R D H1 n H') (s : Same H' H4) (r : R n y (hide [D] H4)) :
    ∃ acc, H4 D = some (.lst acc) ∧ acc.length < sizeLine ∧ Acc R D H1 (n + 1) (upd H4 D (.lst (acc ++ [y]))) := by
  obtain ⟨acc, h1, h2, h3, h4⟩ := p
  refine ⟨acc, s _ _ h1, by rw [sizeLine_eq]; omega, acc ++ [y], upd_same, fun b o e => ?_, by simp [h3], fun j v h => ?_⟩
  · rw [upd_ne (ne_of_none e hD)]
    exact s _ _ (h2 _ _ e)
  · rw [hide_upd]
    by_cases hj : j < acc.length
    · rw [List.getElem?_append_left hj] at h
      exact st _ _ _ _ (hide_same s) (h4 j v h)
    · rw [List.getElem?_append_right (by omega)] at h
      have e : j = n := by
        have := (List.getElem?_eq_some_iff.mp h).1
        simp at this
        omega
      subst e
      have e2 : v = y := by
        rw [h3, Nat.sub_self] at h
        simpa using h.symm
      subst e2
      exact r
theorem Acc.there {R : Nat → V → Hp → Prop} {D : Addr} {H1 H' : Hp} {n : Nat} (p : Acc R D H1 n H') : H' D ≠ none := by
  obtain ⟨acc, h1, _⟩ := p
  rw [h1]
  exact fun z => nomatch z
/-- [t for x in a list] -/
theorem lc_listS {K : PySem.W.Frag} {a : Addr} {xs : List V} {g : TG} {t : TE} {vs : List Nat} {σ : St} {H1 : Hp} {D : Addr} {Qd : Hp → Prop} (R : Nat → V → Hp → Prop) (st : ∀ j v H H', Same H H' → R j v H → R j v H') (hD : H1 D = none) (hl : SqL K H1 a xs) (hx : xs.length ≤ 1000000)
    (hs : ∀ j x H', xs[j]? = some x → Same H1 H' → H' D ≠ none → g x (wipe σ vs) H' fun σ2 H2 => wipe σ2 vs = wipe σ vs ∧ H2 = H' ∧ t σ2 H2 fun y H4 => Same H2 H4 ∧ R j y (hide [D] H4))
    (hg : ∀ x σ H (q q' : St → Hp → Prop), g x σ H q → (∀ σ H, q σ H → q' σ H) → g x σ H q')
    (hd : ∀ H' acc, Same H1 H' → H' D = some (.lst acc) → acc.length = xs.length → (∀ j v, acc[j]? = some v → R j v H') → Qd H') :
    ∃ W : Nat → Nat → Hp → Prop, (∃ m, W 0 m (upd H1 D (.lst []))) ∧ ∀ i m H, W i m H →
      ((Itl K a).stop i H ∧ Qd H) ∨ ((Itl K a).go i H ∧ ∃ Nx : Hp → Prop, (∀ H', Nx H' → ∃ m', m' < m ∧ W (i + 1) m' H') ∧ ∀ x H', (Itl K a).yld i H x H' → g x (wipe σ vs) H' fun σ2 H2 => wipe σ2 vs = wipe σ vs ∧ tYes σ2 H2 fun b H3 =>
        if b = true then tUp t σ2 H3 fun y H4 => ∃ acc, H4 D = some (.lst acc) ∧ acc.length < sizeLine ∧ Nx (upd H4 D (.lst (acc ++ [y]))) else Nx H3) := by
  refine lc_list (K := K) (a := a) (xs := xs) (te := tUp t) (fun i H' => Acc R D H1 i H') (Acc.start hD) (fun i H' _ ⟨_, _, s, _⟩ => s.sqL hl) (fun i x H' hi p => ?_) (fun H' ⟨acc, h1, h2, h3, h4⟩ => hd H' acc h2 h1 h3 fun j v h => st _ _ _ _ hide_sub (h4 j v h))
  have hlt : i < xs.length := (List.getElem?_eq_some_iff.mp hi).1
  have hs2 := p
  obtain ⟨_, _, s, _⟩ := hs2
  refine hg _ _ _ _ _ (hs i x H' hi s p.there) fun σ2 H2 ⟨w, e, q⟩ => ⟨w, ?_⟩
  subst e
  unfold tYes
  dsimp only
  rw [if_pos rfl]
  exact ⟨_, q, fun y H4 ⟨s4, r⟩ => Acc.snoc st hD (by omega) p s4 r⟩
/-- [t for x in range(n)] -/
theorem lc_rangeS {lo : Int} {n : Nat} {g : TG} {t : TE} {vs : List Nat} {σ : St} {H1 : Hp} {D : Addr} {Qd : Hp → Prop} (R : Nat → V → Hp → Prop) (st : ∀ j v H H', Same H H' → R j v H → R j v H') (hD : H1 D = none) (hx : n ≤ 1000000)
    (hs : ∀ j H', j < n → Same H1 H' → H' D ≠ none → g (.int (lo + j)) (wipe σ vs) H' fun σ2 H2 => wipe σ2 vs = wipe σ vs ∧ H2 = H' ∧ t σ2 H2 fun y H4 => Same H2 H4 ∧ R j y (hide [D] H4))
    (hg : ∀ x σ H (q q' : St → Hp → Prop), g x σ H q → (∀ σ H, q σ H → q' σ H) → g x σ H q')
    (hd : ∀ H' acc, Same H1 H' → H' D = some (.lst acc) → acc.length = n → (∀ j v, acc[j]? = some v → R j v H') → Qd H') :
    ∃ W : Nat → Nat → Hp → Prop, (∃ m, W 0 m (upd H1 D (.lst []))) ∧ ∀ i m H, W i m H →
      ((Itr lo n).stop i H ∧ Qd H) ∨ ((Itr lo n).go i H ∧ ∃ Nx : Hp → Prop, (∀ H', Nx H' → ∃ m', m' < m ∧ W (i + 1) m' H') ∧ ∀ x H', (Itr lo n).yld i H x H' → g x (wipe σ vs) H' fun σ2 H2 => wipe σ2 vs = wipe σ vs ∧ tYes σ2 H2 fun b H3 =>
        if b = true then tUp t σ2 H3 fun y H4 => ∃ acc, H4 D = some (.lst acc) ∧ acc.length < sizeLine ∧ Nx (upd H4 D (.lst (acc ++ [y]))) else Nx H3) := by
  refine lc_range (lo := lo) (n := n) (te := tUp t) (fun i H' => Acc R D H1 i H') (Acc.start hD) (fun i H' hi p => ?_) (fun H' ⟨acc, h1, h2, h3, h4⟩ => hd H' acc h2 h1 h3 fun j v h => st _ _ _ _ hide_sub (h4 j v h))
  have hs2 := p
  obtain ⟨_, _, s, _⟩ := hs2
  refine hg _ _ _ _ _ (hs i H' hi s p.there) fun σ2 H2 ⟨w, e, q⟩ => ⟨w, ?_⟩
  subst e
  unfold tYes
  dsimp only
  rw [if_pos rfl]
  exact ⟨_, q, fun y H4 ⟨s4, r⟩ => Acc.snoc st hD (by omega) p s4 r⟩
theorem gName_mono {i : Nat} : ∀ x σ H (q q' : St → Hp → Prop), gName i x σ H q → (∀ σ H, q σ H → q' σ H) → gName i x σ H q' := fun _ _ _ _ _ h k => k _ _ h
/-- slice of a list -/
def rSlLS (K : PySem.W.Frag) : V → Option Int → Option Int → Hp → VK → Prop := fun x lo hi H Q => ∃ a xs, x = .ref a ∧ SqL K H a xs ∧ ∀ p H', Same H H' → H p = none → H' p = some (.lst (cutV xs lo hi)) → Q (.ref p) H'
theorem sl_listS {X : Cx} : SlR X (rSlLS X.K) := by
  intro pins s σ H x v vl vu lo hi sl Q I rx hs pl pu h
  obtain ⟨a, xs, e, hx, k⟩ := h
  exact sl_list pins s σ H x v vl vu lo hi sl Q I rx hs pl pu ⟨a, xs, e, hx, fun p n => k p _ ((Same.refl _).new n) n upd_same⟩
/-- a row of data of equal shape -/
theorem dpAll_get {K : PySem.W.Frag} {H : Hp} : ∀ (vs : List V) (ds : List PyData), vs.length = ds.length → (∀ (i : Nat) (v : V), vs[i]? = some v → ∃ d : PyData, ds[i]? = some d ∧ Dp K H v d) → DpAll K H vs ds
  | [], [], _, _ => .nil
  | [], d :: ds, h, _ => nomatch h
  | v :: vs, [], h, _ => nomatch h
  | v :: vs, d :: ds, h, k => by
    refine .cons ?_ (dpAll_get vs ds (by simpa using h) fun i u hu => ?_)
    · obtain ⟨d', e, r⟩ := k 0 v rfl
      cases e
      exact r
    · obtain ⟨d', e, r⟩ := k (i + 1) u (by simpa using hu)
      exact ⟨d', by simpa using e, r⟩
end L2

set_option Elab.async false
set_option linter.all false
set_option maxRecDepth 100000
set_option maxHeartbeats 4000000
/-! Data with the empty dict among it. -/
namespace L2
open PySem PySem.Spec PyProof.Rows PySem.KX
mutual
inductive Dq (K : PySem.W.Frag) (H : Hp) : V → PyData → Prop
  | non : Dq K H .non .none
  | bl (b : Bool) : Dq K H (.bl b) (.bool b)
  | int (i : Int) : Dq K H (.int i) (.int i)
  | str (x : Str) : Dq K H (.str x) (.str x)
  | lst {a : Addr} {xs : List V} {ds : List PyData} (h : SqL K H a xs) (t : DqAll K H xs ds) : Dq K H (.ref a) (.list ds)
  | tup {a : Addr} {xs : List V} {ds : List PyData} (h : SqT K H a xs) (t : DqAll K H xs ds) : Dq K H (.ref a) (.tuple ds)
  | emp {a : Addr} (h : H a = some (.dK [])) : Dq K H (.ref a) (.dict [])
inductive DqAll (K : PySem.W.Frag) (H : Hp) : List V → List PyData → Prop
  | nil : DqAll K H [] []
  | cons {v : V} {vs : List V} {d : PyData} {ds : List PyData} (h : Dq K H v d) (t : DqAll K H vs ds) : DqAll K H (v :: vs) (d :: ds)
end
section
variable {K : PySem.W.Frag} {H H' : Hp} {v : V} {vs : List V} {d : PyData} {ds : List PyData}
mutual
theorem Dq.same (e : Same H H') : ∀ (d : PyData) (v : V), Dq K H v d → Dq K H' v d
  | .none, _, h => by cases h; exact .non
  | .bool b, _, h => by cases h; exact .bl b
  | .int i, _, h => by cases h; exact .int i
  | .str x, _, h => by cases h; exact .str x
  | .list ds, _, h => by
    cases h with
    | lst hs ha => exact .lst (e.sqL hs) (DqAll.same e ds _ ha)
  | .tuple ds, _, h => by
    cases h with
    | tup hs ha => exact .tup (e.sqT hs) (DqAll.same e ds _ ha)
  | .dict _, _, h => by
    cases h with
    | emp h => exact .emp (e _ _ h)
theorem DqAll.same (e : Same H H') : ∀ (ds : List PyData) (vs : List V), DqAll K H vs ds → DqAll K H' vs ds
  | [], _, h => by cases h; exact .nil
  | d :: ds, _, h => by
    cases h with
    | cons h1 h2 => exact .cons (Dq.same e d _ h1) (DqAll.same e ds _ h2)
end
theorem DqAll.length : ∀ {vs : List V} {ds : List PyData}, DqAll K H vs ds → vs.length = ds.length
  | _, _, .nil => rfl
  | _, _, .cons _ t => by simp [DqAll.length t]
theorem DqAll.get : ∀ {vs : List V} {ds : List PyData} {i : Nat} {v : V}, DqAll K H vs ds → vs[i]? = some v → ∃ d, ds[i]? = some d ∧ Dq K H v d
  | _, _, i, v, .nil, e => by simp at e
  | _, _, 0, v, .cons h _, e => by
    simp at e
    subst e
    exact ⟨_, rfl, h⟩
  | _, _, i + 1, v, .cons _ t, e => by
    obtain ⟨d, h1, h2⟩ := DqAll.get (i := i) (v := v) t (by simpa using e)
    exact ⟨d, by simpa using h1, h2⟩
theorem dqAll_get : ∀ (vs : List V) (ds : List PyData), vs.length = ds.length → (∀ (i : Nat) (v : V), vs[i]? = some v → ∃ d : PyData, ds[i]? = some d ∧ Dq K H v d) → DqAll K H vs ds
  | [], [], _, _ => .nil
  | [], d :: ds, h, _ => nomatch h
  | v :: vs, [], h, _ => nomatch h
  | v :: vs, d :: ds, h, k => by
    refine .cons ?_ (dqAll_get vs ds (by simpa using h) fun i u hu => ?_)
    · obtain ⟨d', e, r⟩ := k 0 v rfl
      cases e
      exact r
    · obtain ⟨d', e, r⟩ := k (i + 1) u (by simpa using hu)
      exact ⟨d', by simpa using e, r⟩
/-- a value's type -/
theorem Dq.ty (h : Dq K H v d) : TyE K H v (.type (tyOfD d)) := by
  cases h with
  | non => exact .x (.base .non)
  | bl b => exact .x (.base (.bl b))
  | int i => exact .x (.base (.int i))
  | str x => exact .x (.base (.str x))
  | lst hs ha =>
    rcases hs with (hs | ⟨o, hs⟩) | ⟨o, its, n, hk, hc, _⟩
    · exact .x (.base (.lst hs))
    · exact .x (.base (.frz hs))
    · exact .x (.kList hk hc)
  | tup hs ha =>
    rcases hs with (hs | ⟨o, hs⟩) | ⟨o, its, n, hk, hc, _⟩
    · exact .x (.base (.tup hs))
    · exact .x (.fTuple hs)
    · exact .x (.kTuple hk hc)
  | emp h => exact .x (.base (.dK h))
end
section
variable {X : Cx} {pins : List (Addr × Obj)} {σ : St} {H : Hp} {s : Shared}
mutual
theorem Dq.reads (I : Inv X pins σ H s) : ∀ (d : PyData) (v : V) (u : Value), Dq X.K H v d → RelV v u → ∃ as, Reads s.heap u d as
  | .none, _, _, h, r => by
    cases h
    cases r
    exact ⟨_, Reads.none⟩
  | .bool b, _, _, h, r => by
    cases h
    cases r
    exact ⟨_, Reads.bool b⟩
  | .int i, _, _, h, r => by
    cases h
    obtain ⟨t, rfl⟩ := r
    exact ⟨_, Reads.int i t⟩
  | .str x, _, _, h, r => by
    cases h
    obtain ⟨t, rfl⟩ := r
    exact ⟨_, Reads.str x t⟩
  | .list ds, _, _, h, r => by
    cases h with
    | lst hs ha =>
      cases r
      obtain ⟨its, rv, ⟨o, n, ho, hc, _, hd⟩, _⟩ := I.list hs
      obtain ⟨as, hr⟩ := Dq.readsAll I ds _ its ha rv
      exact ⟨_, Reads.list ho hc hd hr⟩
  | .tuple ds, _, _, h, r => by
    cases h with
    | tup hs ha =>
      cases r
      obtain ⟨its, rv, ⟨o, ho, hc, n, hd⟩, _⟩ := I.tuple hs
      obtain ⟨as, hr⟩ := Dq.readsAll I ds _ its ha rv
      exact ⟨_, Reads.tuple ho hc hd hr⟩
  | .dict kvs, _, _, h, r => by
    cases h with
    | emp e =>
      cases r
      obtain ⟨hz, hsm, vs, rel, o, es, ep, ho, hx, hd, hk, hp, _⟩ := dk_of I.hok e
      cases rel
      have he : es.toList = [] := by
        have := hp.length
        exact List.length_eq_zero_iff.mp this
      exact ⟨_, Reads.dict (kvs := []) (as := []) (bs := []) ho hx.1 hd (by rw [he]; exact .nil) (by rw [he]; exact .nil)⟩
theorem Dq.readsAll (I : Inv X pins σ H s) : ∀ (ds : List PyData) (vs : List V) (us : List Value), DqAll X.K H vs ds → Vals vs us → ∃ as, ReadsAll s.heap us ds as
  | [], _, _, h, r => by
    cases h
    cases r
    exact ⟨_, ReadsAll.nil⟩
  | d :: ds, _, _, h, r => by
    cases h with
    | cons h1 h2 =>
      cases r with
      | cons r1 r2 =>
        obtain ⟨as, q1⟩ := Dq.reads I d _ _ h1 r1
        obtain ⟨bs, q2⟩ := Dq.readsAll I ds _ _ h2 r2
        exact ⟨_, ReadsAll.cons q1 q2⟩
end
end
/-! the same, no list among it at the place of sys.modules -/
mutual
inductive Dn (K : PySem.W.Frag) (H : Hp) : V → PyData → Prop
  | non : Dn K H .non .none
  | bl (b : Bool) : Dn K H (.bl b) (.bool b)
  | int (i : Int) : Dn K H (.int i) (.int i)
  | str (x : Str) : Dn K H (.str x) (.str x)
  | lst {a : Addr} {xs : List V} {ds : List PyData} (h : SqL K H a xs) (n : (a == sysModules) = false) (t : DnAll K H xs ds) : Dn K H (.ref a) (.list ds)
  | tup {a : Addr} {xs : List V} {ds : List PyData} (h : SqT K H a xs) (t : DnAll K H xs ds) : Dn K H (.ref a) (.tuple ds)
  | emp {a : Addr} (h : H a = some (.dK [])) : Dn K H (.ref a) (.dict [])
inductive DnAll (K : PySem.W.Frag) (H : Hp) : List V → List PyData → Prop
  | nil : DnAll K H [] []
  | cons {v : V} {vs : List V} {d : PyData} {ds : List PyData} (h : Dn K H v d) (t : DnAll K H vs ds) : DnAll K H (v :: vs) (d :: ds)
end
section
variable {K : PySem.W.Frag} {H H' : Hp} {v : V} {vs : List V} {d : PyData} {ds : List PyData}
mutual
theorem Dn.same (e : Same H H') : ∀ (d : PyData) (v : V), Dn K H v d → Dn K H' v d
  | .none, _, h => by cases h; exact .non
  | .bool b, _, h => by cases h; exact .bl b
  | .int i, _, h => by cases h; exact .int i
  | .str x, _, h => by cases h; exact .str x
  | .list ds, _, h => by
    cases h with
    | lst hs n ha => exact .lst (e.sqL hs) n (DnAll.same e ds _ ha)
  | .tuple ds, _, h => by
    cases h with
    | tup hs ha => exact .tup (e.sqT hs) (DnAll.same e ds _ ha)
  | .dict _, _, h => by
    cases h with
    | emp h => exact .emp (e _ _ h)
theorem DnAll.same (e : Same H H') : ∀ (ds : List PyData) (vs : List V), DnAll K H vs ds → DnAll K H' vs ds
  | [], _, h => by cases h; exact .nil
  | d :: ds, _, h => by
    cases h with
    | cons h1 h2 => exact .cons (Dn.same e d _ h1) (DnAll.same e ds _ h2)
end
mutual
theorem Dn.dq : ∀ (d : PyData) (v : V), Dn K H v d → Dq K H v d
  | .none, _, h => by cases h; exact .non
  | .bool b, _, h => by cases h; exact .bl b
  | .int i, _, h => by cases h; exact .int i
  | .str x, _, h => by cases h; exact .str x
  | .list ds, _, h => by
    cases h with
    | lst hs n ha => exact .lst hs (DnAll.dq ds _ ha)
  | .tuple ds, _, h => by
    cases h with
    | tup hs ha => exact .tup hs (DnAll.dq ds _ ha)
  | .dict _, _, h => by
    cases h with
    | emp h => exact .emp h
theorem DnAll.dq : ∀ (ds : List PyData) (vs : List V), DnAll K H vs ds → DqAll K H vs ds
  | [], _, h => by cases h; exact .nil
  | d :: ds, _, h => by
    cases h with
    | cons h1 h2 => exact .cons (Dn.dq d _ h1) (DnAll.dq ds _ h2)
end
end
section
variable {X : Cx} {pins : List (Addr × Obj)} {σ : St} {H : Hp} {s : Shared}
mutual
theorem Dn.reads (I : Inv X pins σ H s) : ∀ (d : PyData) (v : V) (u : Value), Dn X.K H v d → RelV v u → ∃ as, Reads s.heap u d as ∧ sysModules ∉ as
  | .none, _, _, h, r => by
    cases h
    cases r
    exact ⟨_, Reads.none, by simp⟩
  | .bool b, _, _, h, r => by
    cases h
    cases r
    exact ⟨_, Reads.bool b, by simp⟩
  | .int i, _, _, h, r => by
    cases h
    obtain ⟨t, rfl⟩ := r
    exact ⟨_, Reads.int i t, by simp⟩
  | .str x, _, _, h, r => by
    cases h
    obtain ⟨t, rfl⟩ := r
    exact ⟨_, Reads.str x t, by simp⟩
  | .list ds, _, _, h, r => by
    cases h with
    | lst hs nn ha =>
      cases r
      obtain ⟨its, rv, ⟨o, n, ho, hc, _, hd⟩, _⟩ := I.list hs
      obtain ⟨as, hr, hm⟩ := Dn.readsAll I ds _ its ha rv
      refine ⟨_, Reads.list ho hc hd hr, fun z => ?_⟩
      rcases List.mem_cons.mp z with z | z
      · rw [← z] at nn
        simp at nn
      · exact hm z
  | .tuple ds, _, _, h, r => by
    cases h with
    | tup hs ha =>
      cases r
      obtain ⟨its, rv, ⟨o, ho, hc, n, hd⟩, _⟩ := I.tuple hs
      obtain ⟨as, hr, hm⟩ := Dn.readsAll I ds _ its ha rv
      exact ⟨_, Reads.tuple ho hc hd hr, hm⟩
  | .dict kvs, _, _, h, r => by
    cases h with
    | emp e =>
      cases r
      obtain ⟨hz, hsm, vs, rel, o, es, ep, ho, hx, hd, hk, hp, _⟩ := dk_of I.hok e
      cases rel
      have he : es.toList = [] := by
        have := hp.length
        exact List.length_eq_zero_iff.mp this
      refine ⟨_, Reads.dict (kvs := []) (as := []) (bs := []) ho hx.1 hd (by rw [he]; exact .nil) (by rw [he]; exact .nil), fun z => ?_⟩
      have z' := List.mem_singleton.mp (by rw [List.append_nil] at z; exact z)
      rw [← z'] at hsm
      simp at hsm
theorem Dn.readsAll (I : Inv X pins σ H s) : ∀ (ds : List PyData) (vs : List V) (us : List Value), DnAll X.K H vs ds → Vals vs us → ∃ as, ReadsAll s.heap us ds as ∧ sysModules ∉ as
  | [], _, _, h, r => by
    cases h
    cases r
    exact ⟨_, ReadsAll.nil, by simp⟩
  | d :: ds, _, _, h, r => by
    cases h with
    | cons h1 h2 =>
      cases r with
      | cons r1 r2 =>
        obtain ⟨as, q1, m1⟩ := Dn.reads I d _ _ h1 r1
        obtain ⟨bs, q2, m2⟩ := Dn.readsAll I ds _ _ h2 r2
        exact ⟨_, ReadsAll.cons q1 q2, fun z => (List.mem_append.mp z).elim m1 m2⟩
end
end
section
variable {X : Cx}
def rEqQ (K : PySem.W.Frag) : R2 := fun x y H Q => ∃ d e, Dq K H x d ∧ Dq K H y e ∧ SeqAt.shaped d = true ∧ SeqAt.shaped e = true ∧ Q (.bl (PyData.eqv d e)) H
def rNeQ (K : PySem.W.Frag) : R2 := fun x y H Q => ∃ d e, Dq K H x d ∧ Dq K H y e ∧ SeqAt.shaped d = true ∧ SeqAt.shaped e = true ∧ Q (.bl (!PyData.eqv d e)) H
theorem op_eqQ (hu : X.A.units + 64 < cLine) : OpR X (compareOp .Eq) (rEqQ X.K) := by
  intro pins s σ H x y v u Q I rx ry h
  obtain ⟨d, e, hd, he, sd, se, q⟩ := h
  obtain ⟨as, r1⟩ := Dq.reads I d x v hd rx
  obtain ⟨bs, r2⟩ := Dq.reads I e y u he ry
  exact SeqAt.compareEq_shaped r1 r2 sd se hu ⟨.bl _, H, I, rfl, q⟩
theorem op_neQ (hu : X.A.units + 64 < cLine) : OpR X (compareOp .NotEq) (rNeQ X.K) := by
  intro pins s σ H x y v u Q I rx ry h
  obtain ⟨d, e, hd, he, sd, se, q⟩ := h
  obtain ⟨as, r1⟩ := Dq.reads I d x v hd rx
  obtain ⟨bs, r2⟩ := Dq.reads I e y u he ry
  exact SeqAt.compareNe_shaped r1 r2 sd se hu ⟨.bl _, H, I, rfl, q⟩
/-- repr(x) of a list, a tuple, a dict -/
def rReprQ (K : PySem.W.Frag) : List V → Hp → VK → Prop := fun xs H Q => ∃ (a : Addr) (d : PyData), xs = [.ref a] ∧ ((d.hasDict = false ∧ Dq K H (.ref a) d) ∨ Dn K H (.ref a) d) ∧ d.showable = true ∧ d.depth ≤ 60 ∧ d.shown.length ≤ sizeLine ∧ Q (.str d.shown) H
theorem call_reprQ (hu : X.A.units + 64 < cLine) (hg : X.A.guards = some []) : CallR X (.builtin "repr") (rReprQ X.K) := by
  intro pins s σ H xs us Q I r h
  obtain ⟨a, d, rfl, hd, h1, h3, h4, q⟩ := h
  obtain ⟨u, rfl, ru⟩ := vals1 r
  obtain rfl : u = Value.ref a := ru
  have hrd : ∃ as, Reads s.heap (.ref a) d as ∧ (d.hasDict = true → sysModules ∉ as) := by
    rcases hd with ⟨hn, hd⟩ | hd
    · obtain ⟨as, rd⟩ := Dq.reads I d _ _ hd rfl
      exact ⟨as, rd, PyData.noDict_hsm hn⟩
    · obtain ⟨as, rd, hm⟩ := Dn.reads I d _ _ hd rfl
      exact ⟨as, rd, fun _ => hm⟩
  obtain ⟨as, rd, hm⟩ := hrd
  exact repr_of_reads' (h₀ := s.heap) rd h1 hm hg (by omega) (fun _ _ e => e) (fun h' u tk hk => ⟨.str d.shown, H, I.kept (t' := tk) hk, ⟨u, rfl⟩, q⟩) h4
end
end L2

set_option Elab.async false
set_option linter.all false
set_option maxRecDepth 100000
set_option maxHeartbeats 4000000
/-! Comprehensions over any walk; slices of tuples; all(..) of a list of bools. -/
namespace L2
open PySem PySem.Spec PyProof.Rows PySem.KX
theorem lc_itS {J : It} {n : Nat} {G : Hp → Prop} {Y : Nat → Hp → V → Hp → Prop} (w : Walk J n G Y) {g : TG} {t : TE} {vs : List Nat} {σ : St} {H1 : Hp} {D : Addr} {Qd : Hp → Prop} (R : Nat → V → Hp → Prop) (st : ∀ j v H H', Same H H' → R j v H → R j v H') (hD : H1 D = none) (hx : n ≤ 1000000)
    (hG : ∀ H', Same H1 H' → G H')
    (hs : ∀ j x H' H2, j < n → Same H1 H' → H' D ≠ none → Y j H' x H2 → g x (wipe σ vs) H2 fun σ3 H3 => wipe σ3 vs = wipe σ vs ∧ t σ3 H3 fun y H4 => Same H' H4 ∧ R j y (hide [D] H4))
    (hg : ∀ x σ H (q q' : St → Hp → Prop), g x σ H q → (∀ σ H, q σ H → q' σ H) → g x σ H q')
    (hd : ∀ H' acc, Same H1 H' → H' D = some (.lst acc) → acc.length = n → (∀ j v, acc[j]? = some v → R j v H') → Qd H') :
    ∃ W : Nat → Nat → Hp → Prop, (∃ m, W 0 m (upd H1 D (.lst []))) ∧ ∀ i m H, W i m H →
      (J.stop i H ∧ Qd H) ∨ (J.go i H ∧ ∃ Nx : Hp → Prop, (∀ H', Nx H' → ∃ m', m' < m ∧ W (i + 1) m' H') ∧ ∀ x H', J.yld i H x H' → g x (wipe σ vs) H' fun σ2 H2 => wipe σ2 vs = wipe σ vs ∧ tYes σ2 H2 fun b H3 =>
        if b = true then tUp t σ2 H3 fun y H4 => ∃ acc, H4 D = some (.lst acc) ∧ acc.length < sizeLine ∧ Nx (upd H4 D (.lst (acc ++ [y]))) else Nx H3) := by
  refine lc_it w (te := tUp t) (fun i H' => Acc R D H1 i H') (Acc.start hD) (fun i H' _ ⟨_, _, s, _⟩ => hG _ s) (fun i x H' H2 hi p y => ?_) (fun H' ⟨acc, h1, h2, h3, h4⟩ => hd H' acc h2 h1 h3 fun j v h => st _ _ _ _ hide_sub (h4 j v h))
  have hs2 := p
  obtain ⟨_, _, s, _⟩ := hs2
  refine hg _ _ _ _ _ (hs i x H' H2 hi s p.there y) fun σ2 H3 ⟨w, q⟩ => ⟨w, ?_⟩
  unfold tYes
  dsimp only
  rw [if_pos rfl]
  exact ⟨_, q, fun y H4 ⟨s4, r⟩ => Acc.snoc st hD (by omega) p s4 r⟩
theorem walk_zipT {K : PySem.W.Frag} {a b : Addr} {xs ys : List V} {n : Nat} (hn : n = min xs.length ys.length) : Walk (RZ.ItzT K a b) n (fun H => SqT K H a xs ∧ SqT K H b ys) (YPair (fun i => xs[i]?) (fun i => ys[i]?)) := by
  constructor
  · intro i H hi ⟨h1, h2⟩
    exact ⟨xs, ys, xs[i]'(by omega), ys[i]'(by omega), h1, h2, List.getElem?_eq_getElem _, List.getElem?_eq_getElem _⟩
  · intro H ⟨h1, h2⟩
    exact ⟨xs, ys, h1, h2, by omega⟩
  · rintro i H x H' hi ⟨h1, h2⟩ ⟨T, x1, y1, e1, e2, e3, k1, k2⟩
    exact ⟨T, x1, y1, e1, e2, e3, k1 _ h1, k2 _ h2⟩
theorem cut_whole {xs : List V} {lo hi : Option Int} (h : HT.sIx xs.length 0 lo = 0 ∧ HT.sIx xs.length xs.length hi = xs.length) : cutV xs lo hi = xs := by
  unfold cutV
  rw [h.1, h.2]
  simp
def rSlTS (K : PySem.W.Frag) : V → Option Int → Option Int → Hp → VK → Prop := fun x lo hi H Q => ∃ a xs, x = .ref a ∧ SqT K H a xs ∧ ∀ r H', Same H H' → SqT K H' r (cutV xs lo hi) → Q (.ref r) H'
theorem sl_tupS {X : Cx} : SlR X (rSlTS X.K) := by
  intro pins s σ H x v vl vu lo hi sl Q I rx hs pl pu h
  obtain ⟨a, xs, e, hx, k⟩ := h
  refine sl_tupA pins s σ H x v vl vu lo hi sl Q I rx hs pl pu ⟨a, xs, e, hx, fun c => k a H (Same.refl _) (by rw [cut_whole c]; exact hx), fun _ p n => k p _ ((Same.refl _).new n) (SqT.of upd_same)⟩
theorem cut_tail (xs : List V) : cutV xs (some 1) none = xs.tail := by
  cases xs with
  | nil => rfl
  | cons x r =>
    unfold cutV
    have h1 : HT.sIx (x :: r).length 0 (some 1) = 1 := by
      unfold HT.sIx
      simp
      try omega
    have h2 : HT.sIx (x :: r).length (x :: r).length none = (x :: r).length := rfl
    rw [h1, h2]
    simp
theorem acc_map {vs : List V} {ds : List PyData} {p : PyData → Bool} (hl : vs.length = ds.length) (h : ∀ (j : Nat) (v : V), vs[j]? = some v → ∃ d, ds[j]? = some d ∧ v = .bl (p d)) : vs = (ds.map p).map V.bl := by
  refine List.ext_getElem? fun j => ?_
  by_cases hj : j < vs.length
  · obtain ⟨d, h1, h2⟩ := h j _ (List.getElem?_eq_getElem hj)
    rw [List.getElem?_eq_getElem hj, h2, List.getElem?_map, List.getElem?_map, h1]
    rfl
  · rw [List.getElem?_eq_none (by omega), List.getElem?_eq_none (by simp; omega)]
theorem all_map {ds : List PyData} {p : PyData → Bool} : (ds.map p).all id = ds.all p := by simp [List.all_map]
end L2

set_option Elab.async false
set_option linter.all false
set_option maxRecDepth 100000
set_option maxHeartbeats 4000000
/-! x == (), whatever x. -/
namespace PySem
namespace KX
open SeqAt PySem.W PySem.Calls PyProof.Rows
theorem nilD_declines (p q : Addr) (es : Array DictEntry) (its : Array Value) (k k2 : Nat) (d1 d2 : Option Addr) (z1 z2 : Array (Option Value)) :
    Meets (Builtin.«dict.__eq__» ⟨[.ref p, .ref q], []⟩) (fun _ R s => s.heap.get? p = some { cls := .type "dict", dict := d1, data := .dict es k, slots := z1 } ∧ s.heap.get? q = some { cls := .type "tuple", dict := d2, data := .seq its k2, slots := z2 } ∧ R (.ok (.ret .notImplemented)) s) :=
  .of_wp fun prog w A R s hh => by
    obtain ⟨hp, g, d, tk, os⟩ := s
    obtain ⟨e1, e2, hh⟩ := hh
    have f1 := F.sub_tuple_dict
    wp_walk using wpAny_loadPart' e1, wpAny_loadPart' e2
    exact ⟨_, rfl, hh⟩
theorem nilT_declines (p q : Addr) (es : Array DictEntry) (its : Array Value) (k k2 : Nat) (d1 d2 : Option Addr) (z1 z2 : Array (Option Value)) :
    Meets (Builtin.«tuple.__eq__» ⟨[.ref q, .ref p], []⟩) (fun _ R s => s.heap.get? q = some { cls := .type "tuple", dict := d2, data := .seq its k2, slots := z2 } ∧ s.heap.get? p = some { cls := .type "dict", dict := d1, data := .dict es k, slots := z1 } ∧ R (.ok (.ret .notImplemented)) s) :=
  .of_wp fun prog w A R s hh => by
    obtain ⟨hp, g, d, tk, os⟩ := s
    obtain ⟨e1, e2, hh⟩ := hh
    have f1 := F.sub_dict_tuple
    wp_walk using wpAny_loadPart' e1, wpAny_loadPart' e2
    exact ⟨_, rfl, hh⟩
theorem rcDictTup {A : Around} {s : Shared} {p q : Addr} {o : Obj} {es : Array DictEntry} {ep : Nat} {its : Array Value} (ho : s.heap.get? p = some o) (hx : o.cls = .type "dict") (hd : o.data = .dict es ep) (hb : s.heap.IsTuple q its) (hu : A.units < cLine) : RcAt A s (.ref p) (.ref q) false := fun prog w E Q h => by
  obtain ⟨⟨c2, d2, t2, z2⟩, ho2, hc2, n2, hd2⟩ := id hb
  obtain ⟨c1, d1, t1, z1⟩ := o
  have hne : p ≠ q := fun e => by
    subst e
    rw [ho] at ho2
    cases ho2
    rw [hd] at hd2
    cases hd2
  simp only at hx hd hc2 hd2
  subst hx
  subst hd
  subst hc2
  subst hd2
  exact (rc_eq_decline_or (k := false) ⟨_, ho, rfl⟩ ⟨_, ho2, rfl⟩ (by decide) F.sub_tuple_dict F.slot_dict_eq F.slot_tuple_eq_refl
    (fun _ hq => call_meets F.slot_dict_eq ⟨_, ho, rfl⟩ F.entry_dict_eq (F.args_dict_eq_2 _ _) (nilD_declines p q es its ep n2 d1 d2 z1 z2) ⟨ho, ho2, hq⟩)
    (fun _ hq => call_meets F.slot_tuple_eq_refl ⟨_, ho2, rfl⟩ F.entry_tuple_eq (F.args_tuple_eq_2 _ _) (nilT_declines p q es its ep n2 d1 d2 z1 z2) ⟨ho2, ho, hq⟩)
    (fun _ hq => wpAny_isSame_ref_other hne ho ho2 (by simp) hq) (.inr hu) h)
end KX
end PySem
namespace L2
open PySem PySem.Spec PyProof.Rows PySem.KX SeqAt
def isNilD : PyData → Bool
  | .tuple [] => true
  | _ => false
def rEqNil (K : PySem.W.Frag) : R2 := fun x y H Q => ∃ r d, y = .ref r ∧ SqT K H r [] ∧ Dq K H x d ∧ Q (.bl (isNilD d)) H
theorem op_eqNil {X : Cx} (hu : X.A.units + 64 < cLine) : OpR X (compareOp .Eq) (rEqNil X.K) := by
  intro pins s σ H x y v u Q I rx ry h
  obtain ⟨r, d, rfl, hr, hd, q⟩ := h
  obtain rfl : u = Value.ref r := ry
  have hu1 : X.A.units < cLine := by omega
  obtain ⟨it0, rv0, ⟨o0, ho0, hc0, n0, hd0⟩, _⟩ := I.tuple hr
  have hl0 : it0 = [] := by
    cases rv0
    rfl
  subst hl0
  have T0 : s.heap.IsTuple r #[] := ⟨o0, ho0, hc0, n0, hd0⟩
  have fin : ∀ {b : Bool}, RcAt X.A s v (.ref r) b → isNilD d = b → wpAny (model X.prog X.w) X.A (compareOp .Eq v (.ref r)) (EP X pins σ Q) X.xe s := fun {b} rc e => rc X.prog X.w X.xe _ ⟨.bl b, H, I, rfl, e ▸ q⟩
  cases hd with
  | non =>
    cases rx
    exact fin (.none_tuple T0 hu1) rfl
  | bl b =>
    cases rx
    exact fin (.bool_tuple b T0 hu1) rfl
  | int i =>
    obtain ⟨t, rfl⟩ := rx
    exact fin (.int_tuple i t T0 hu1) rfl
  | str x =>
    obtain ⟨t, rfl⟩ := rx
    exact fin (.str_tuple x t T0 hu1) rfl
  | lst hs ha =>
    cases rx
    obtain ⟨its, rv, ⟨o, n, ho, hc, _, hd⟩, _⟩ := I.list hs
    exact fin (.list_tuple ⟨o, ho, hc, n, hd⟩ T0 hu1) rfl
  | @tup a xs ds hs ha =>
    cases rx
    obtain ⟨its, rv, ⟨o, ho, hc, n, hd⟩, _⟩ := I.tuple hs
    refine fin (.tuples (e := fun _ => true) ⟨o, ho, hc, n, hd⟩ T0 hu1 fun j h1 h2 => absurd h2 (by simp)) ?_
    have hl : its.length = ds.length := by rw [← Paired.length rv, ha.length]
    cases ds with
    | nil =>
      have : its = [] := List.length_eq_zero_iff.mp hl
      subst this
      rfl
    | cons d1 r1 =>
      cases its with
      | nil => simp at hl
      | cons i1 r2 => simp [isNilD]
  | emp e =>
    cases rx
    obtain ⟨hz, hsm, vs, rel, o, es, ep, ho, hx, hd, hk, hp, _⟩ := dk_of I.hok e
    exact fin (rcDictTup ho hx.1 hd T0 hu1) rfl
end L2

set_option Elab.async false
set_option linter.all false
set_option maxRecDepth 100000
set_option maxHeartbeats 4000000
/-! What the package says of data: integers, names, places, steps, nets. -/
namespace L2
open PySem PySem.Spec PyProof.Rows PySem.KX
mutual
/-- lists, tuples, texts of at most 100000 -/
def smQ : PyData → Bool
  | .list xs => decide (xs.length ≤ 100000) && smQAll xs
  | .tuple xs => decide (xs.length ≤ 100000) && smQAll xs
  | .str x => decide (x.length ≤ 100000)
  | .dict _ => true
  | .none => true
  | .bool _ => true
  | .int _ => true
def smQAll : List PyData → Bool
  | [] => true
  | x :: xs => smQ x && smQAll xs
end
theorem smQ_tup {ds : List PyData} (h : smQ (.tuple ds) = true) : ds.length ≤ 100000 ∧ smQAll ds = true := by
  simp only [smQ, Bool.and_eq_true, decide_eq_true_eq] at h
  exact h
theorem smQ_lst {ds : List PyData} (h : smQ (.list ds) = true) : ds.length ≤ 100000 ∧ smQAll ds = true := by
  simp only [smQ, Bool.and_eq_true, decide_eq_true_eq] at h
  exact h
theorem smQ_mem : ∀ {ds : List PyData} {i : Nat} {d : PyData}, smQAll ds = true → ds[i]? = some d → smQ d = true
  | [], i, d, _, e => by simp at e
  | x :: xs, 0, d, h, e => by
    simp at e
    subst e
    simp only [smQAll, Bool.and_eq_true] at h
    exact h.1
  | x :: xs, i + 1, d, h, e => by
    simp only [smQAll, Bool.and_eq_true] at h
    exact smQ_mem (ds := xs) (i := i) h.2 (by simpa using e)
/-- data of bounded size -/
structure Wd (K : PySem.W.Frag) (H : Hp) (v : V) (d : PyData) : Prop where
  dq : Dq K H v d
  sm : smQ d = true
theorem Wd.same {K : PySem.W.Frag} {H H' : Hp} {v : V} {d : PyData} (e : Same H H') (h : Wd K H v d) : Wd K H' v d := ⟨Dq.same e _ _ h.dq, h.sm⟩
def isIntB : PyData → Bool
  | .int _ => true
  | .bool _ => true
  | _ => false
def isBoolB : PyData → Bool
  | .bool _ => true
  | _ => false
def isStrB : PyData → Bool
  | .str _ => true
  | _ => false
def isTupB : PyData → Bool
  | .tuple _ => true
  | _ => false
def isLstB : PyData → Bool
  | .list _ => true
  | _ => false
theorem kit_int : ∀ d : PyData, kitB (tyOfD d) "int" = some (isIntB d)
  | .none => (by decide +kernel : kitB "NoneType" "int" = some false)
  | .bool _ => (by decide +kernel : kitB "bool" "int" = some true)
  | .int _ => (by decide +kernel : kitB "int" "int" = some true)
  | .str _ => (by decide +kernel : kitB "str" "int" = some false)
  | .list _ => (by decide +kernel : kitB "list" "int" = some false)
  | .tuple _ => (by decide +kernel : kitB "tuple" "int" = some false)
  | .dict _ => (by decide +kernel : kitB "dict" "int" = some false)
theorem kit_bool : ∀ d : PyData, kitB (tyOfD d) "bool" = some (isBoolB d)
  | .none => (by decide +kernel : kitB "NoneType" "bool" = some false)
  | .bool _ => (by decide +kernel : kitB "bool" "bool" = some true)
  | .int _ => (by decide +kernel : kitB "int" "bool" = some false)
  | .str _ => (by decide +kernel : kitB "str" "bool" = some false)
  | .list _ => (by decide +kernel : kitB "list" "bool" = some false)
  | .tuple _ => (by decide +kernel : kitB "tuple" "bool" = some false)
  | .dict _ => (by decide +kernel : kitB "dict" "bool" = some false)
theorem kit_str : ∀ d : PyData, kitB (tyOfD d) "str" = some (isStrB d)
  | .none => (by decide +kernel : kitB "NoneType" "str" = some false)
  | .bool _ => (by decide +kernel : kitB "bool" "str" = some false)
  | .int _ => (by decide +kernel : kitB "int" "str" = some false)
  | .str _ => (by decide +kernel : kitB "str" "str" = some true)
  | .list _ => (by decide +kernel : kitB "list" "str" = some false)
  | .tuple _ => (by decide +kernel : kitB "tuple" "str" = some false)
  | .dict _ => (by decide +kernel : kitB "dict" "str" = some false)
theorem kit_tuple : ∀ d : PyData, kitB (tyOfD d) "tuple" = some (isTupB d)
  | .none => (by decide +kernel : kitB "NoneType" "tuple" = some false)
  | .bool _ => (by decide +kernel : kitB "bool" "tuple" = some false)
  | .int _ => (by decide +kernel : kitB "int" "tuple" = some false)
  | .str _ => (by decide +kernel : kitB "str" "tuple" = some false)
  | .list _ => (by decide +kernel : kitB "list" "tuple" = some false)
  | .tuple _ => (by decide +kernel : kitB "tuple" "tuple" = some true)
  | .dict _ => (by decide +kernel : kitB "dict" "tuple" = some false)
theorem kit_list : ∀ d : PyData, kitB (tyOfD d) "list" = some (isLstB d)
  | .none => (by decide +kernel : kitB "NoneType" "list" = some false)
  | .bool _ => (by decide +kernel : kitB "bool" "list" = some false)
  | .int _ => (by decide +kernel : kitB "int" "list" = some false)
  | .str _ => (by decide +kernel : kitB "str" "list" = some false)
  | .list _ => (by decide +kernel : kitB "list" "list" = some true)
  | .tuple _ => (by decide +kernel : kitB "tuple" "list" = some false)
  | .dict _ => (by decide +kernel : kitB "dict" "list" = some false)
def isIntD : PyData → Bool
  | .int _ => true
  | _ => false
def intIn (lo hi : Int) : PyData → Bool
  | .int i => decide (lo ≤ i) && decide (i ≤ hi)
  | _ => false
def lowC (c : Nat) : Bool := decide (97 ≤ c) && decide (c ≤ 122)
def isNameD : PyData → Bool
  | .str x => (decide (1 ≤ x.length) && decide (x.length ≤ 8)) && x.cps.toList.all lowC
  | _ => false
def ltD : PyData → PyData → Bool
  | .int i, .int j => decide (i < j)
  | .str x, .str y => decide (x.cps.toList < y.cps.toList)
  | _, _ => false
def ascD (ds : List PyData) : Bool := (ds.zip ds.tail).all fun p => ltD p.1 p.2
def placesD (n : Int) : PyData → Bool
  | .tuple ds => ds.all (intIn 0 (n - 1)) && ascD ds
  | _ => false
def stepD (n : Int) : PyData → Bool
  | .tuple [a, b, c] => isNameD a && (!isNilD b && (!isNilD c && (placesD n b && placesD n c)))
  | _ => false
def firstD : PyData → PyData
  | .tuple (a :: _) => a
  | _ => .none
def netD : PyData → Bool
  | .tuple [.int n, .tuple ds] => (decide (2 ≤ n) && decide (n ≤ 30)) && ((decide (1 ≤ ds.length) && decide (ds.length ≤ 40)) && (ds.all (stepD n) && ascD (ds.map firstD)))
  | _ => false
theorem acc_mapN {α : Type} {vs : List V} {l : List α} {f : α → Bool} (hl : vs.length = l.length) (h : ∀ (j : Nat) (v : V), vs[j]? = some v → ∃ a, l[j]? = some a ∧ v = .bl (f a)) : vs = (l.map f).map V.bl := by
  refine List.ext_getElem? fun j => ?_
  by_cases hj : j < vs.length
  · obtain ⟨d, h1, h2⟩ := h j _ (List.getElem?_eq_getElem hj)
    rw [List.getElem?_eq_getElem hj, h2, List.getElem?_map, List.getElem?_map, h1]
    rfl
  · rw [List.getElem?_eq_none (by omega), List.getElem?_eq_none (by simp; omega)]
theorem all_mapN {α : Type} {l : List α} {f : α → Bool} : (l.map f).all id = l.all f := by simp [List.all_map]
theorem low_a (c : Nat) : (!decide ((⟨#[c]⟩ : Str).cps.toList < ("a" : Str).cps.toList)) = decide (97 ≤ c) := by
  have h : (⟨#[c]⟩ : Str).cps.toList < ("a" : Str).cps.toList ↔ c < 97 := by
    show ([c] : List Nat) < [97] ↔ c < 97
    simp [List.cons_lt_cons_iff]
  by_cases hc : c < 97
  · rw [decide_eq_true (h.mpr hc), decide_eq_false (by omega)]; rfl
  · rw [decide_eq_false (fun z => hc (h.mp z)), decide_eq_true (by omega)]; rfl
theorem low_z (c : Nat) : (!decide (("z" : Str).cps.toList < (⟨#[c]⟩ : Str).cps.toList)) = decide (c ≤ 122) := by
  have h : ("z" : Str).cps.toList < (⟨#[c]⟩ : Str).cps.toList ↔ 122 < c := by
    show ([122] : List Nat) < [c] ↔ 122 < c
    simp [List.cons_lt_cons_iff]
  by_cases hc : 122 < c
  · rw [decide_eq_true (h.mpr hc), decide_eq_false (by omega)]; rfl
  · rw [decide_eq_false (fun z => hc (h.mp z)), decide_eq_true (by omega)]; rfl
/-- <: of ints, of texts -/
def rLtS : R2 := fun x y H Q => match x, y with
  | .int i, .int j => Q (.bl (decide (i < j))) H
  | .str i, .str j => Q (.bl (decide (i.cps.toList < j.cps.toList))) H
  | _, _ => False
theorem op_ltS {X : Cx} : OpR X (compareOp .Lt) rLtS := by
  intro pins s σ H x y v u Q I rx ry h
  cases x <;> cases y <;> first
    | exact h.elim
    | exact op_lt pins s σ H _ _ v u Q I rx ry ⟨_, _, rfl, rfl, h⟩
    | exact op_lt_str pins s σ H _ _ v u Q I rx ry ⟨_, _, rfl, rfl, h⟩
theorem gTup2_mono {K : PySem.W.Frag} {i j : Nat} : ∀ x σ H (q q' : St → Hp → Prop), gTup K 2 (gCons (gName i) (gCons (gName j) gNil)) x σ H q → (∀ σ H, q σ H → q' σ H) → gTup K 2 (gCons (gName i) (gCons (gName j) gNil)) x σ H q' :=
  fun _ _ _ _ _ ⟨a, xs, h1, h2, h3, v, r, h4, v2, r2, h5, h6, q⟩ k => ⟨a, xs, h1, h2, h3, v, r, h4, v2, r2, h5, h6, k _ _ q⟩
section
variable {X : Cx} {x : Str} {i : Int} {pos : Pos}
theorem pe_gint (hm : ∃ t, X.mg x = some (.int i t)) (hg : Gl X x := by rfl) (hd : (x == ("__debug__" : Str)) = false := by decide) : PE X (.Name x pos) (tC (.int i)) := by
  obtain ⟨t, hm⟩ := hm
  exact pe_glob hg hm ⟨t, rfl⟩ hd
end
end L2

set_option Elab.async false
set_option linter.all false
set_option maxRecDepth 100000
set_option maxHeartbeats 4000000
/-! Defs that may raise; == of a text and anything. -/
namespace L2
open PySem PySem.Spec PyProof.Rows PySem.KX
section
variable {X : Cx} {k j : Nat} {ps : List Str} {sp : Sp} {x : Str} {p pos : Pos} {e : Expr} {es : List Expr} {t : TA} {E : XK}
theorem pe_ownX (O : Own X.prog X.w X.K X.mg X.base (L2.CX X.prog X.w) x k ps sp) (hr : RoomG j X.A) (hx : Passes (L2.CX X.prog X.w) X E) (ha : PA X (e :: es) t) (hk : k ≤ j := by decide) (hg : Gl X x := by rfl) (hdb : (x == ("__debug__" : Str)) = false := by decide)
    (he : starEach (e :: es) X.env = (false, eval e X.env) :: starEach es X.env := by rfl) (hpl : (backTo pos (starEach es X.env)).any (·.1) = false := by rfl) : PE X (.Call (.Name x p) (e :: es) [] pos) (tCall sp [] E t) := by
  obtain ⟨f, fd, F, hm, hkp, hb⟩ := O.ex
  exact pe_callG F (hr.mono hk) hg hm hkp hb .nil hx ha hdb he hpl
end
/-- in a def's own body: what it may let out -/
theorem takesE {P : Program} {w : World} {K : PySem.W.Frag} {mg : Str → Option Value} {base : Heap} {N : List Str} {qual : Str} {scope : Scope} {f : Addr} {cdv : Value} {A : Around} {outer : List Env} {s : Shared} {H : Hp} {E : XK} :
    Takes (cxOf (L2.CX P w) P w K mg base N qual scope f cdv A outer s H E) (fun cls d _ H => E cls d H) := takes_of rfl rfl rfl rfl
theorem passE {P : Program} {w : World} {K : PySem.W.Frag} {mg : Str → Option Value} {base : Heap} {N : List Str} {qual : Str} {scope : Scope} {f : Addr} {cdv : Value} {A : Around} {outer : List Env} {s : Shared} {H : Hp} {E : XK} :
    Passes (L2.CX P w) (cxOf (L2.CX P w) P w K mg base N qual scope f cdv A outer s H E) E := passes_call takesE fun _ _ _ _ h => h
end L2

set_option Elab.async false
set_option linter.all false
set_option maxRecDepth 100000
set_option maxHeartbeats 4000000
/-! a text == x, whatever x. -/
namespace PySem
namespace KX
open SeqAt PySem.W PySem.Calls PyProof.Rows
theorem strD_declines (b : Str) (u : Tok) (p : Addr) (c : Value) (es : Array DictEntry) (k : Nat) (d1 : Option Addr) (z1 : Array (Option Value)) :
    Meets (Builtin.«str.__eq__» ⟨[.str b u, .ref p], []⟩) (fun _ R s => s.heap.get? p = some { cls := c, dict := d1, data := .dict es k, slots := z1 } ∧ R (.ok (.ret .notImplemented)) s) :=
  .of_wp fun prog w A R s hh => by
    obtain ⟨hp, g, d, tk, os⟩ := s
    obtain ⟨e1, hh⟩ := hh
    wp_walk using wpAny_loadPart' e1, wpAny_load e1
    exact ⟨_, rfl, hh⟩
theorem dictS_declines (p : Addr) (es : Array DictEntry) (k : Nat) (d1 : Option Addr) (z1 : Array (Option Value)) (b : Str) (u : Tok) :
    Meets (Builtin.«dict.__eq__» ⟨[.ref p, .str b u], []⟩) (fun _ R s => s.heap.get? p = some { cls := .type "dict", dict := d1, data := .dict es k, slots := z1 } ∧ R (.ok (.ret .notImplemented)) s) :=
  .of_wp fun prog w A R s hh => by
    obtain ⟨hp, g, d, tk, os⟩ := s
    obtain ⟨e1, hh⟩ := hh
    have f1 := F.sub_str_dict
    wp_walk using wpAny_loadPart' e1
    exact ⟨_, rfl, hh⟩
theorem rcStrDict {A : Around} {s : Shared} {p : Addr} {o : Obj} {es : Array DictEntry} {ep : Nat} (b : Str) (u : Tok) (ho : s.heap.get? p = some o) (hx : o.cls = .type "dict") (hd : o.data = .dict es ep) (hu : A.units < cLine) : RcAt A s (.str b u) (.ref p) false := fun prog w E Q h => by
  obtain ⟨c1, d1, t1, z1⟩ := o
  simp only at hx hd
  subst hx
  subst hd
  exact rc_eq_decline_or (k := false) (typeIs_str s b u) ⟨_, ho, rfl⟩ (by decide) F.sub_dict_str F.slot_str_eq F.slot_dict_eq_refl
    (fun _ hq => call_meets F.slot_str_eq (typeIs_str s b u) F.entry_str_eq (F.args_str_eq_2 _ _) (strD_declines b u p (.type "dict") es ep d1 z1) ⟨ho, hq⟩)
    (fun _ hq => call_meets F.slot_dict_eq_refl ⟨_, ho, rfl⟩ F.entry_dict_eq (F.args_dict_eq_2 _ _) (dictS_declines p es ep d1 z1 b u) ⟨ho, hq⟩)
    (fun _ hq => wpAny_of_eq (rfl : isSame (.str b u) (.ref p) = pure false) hq) (.inr hu) h
end KX
end PySem
namespace L2
open PySem PySem.Spec PyProof.Rows PySem.KX SeqAt
def isStrD (a : Str) : PyData → Bool
  | .str x => a == x
  | _ => false
def rEqStr (K : PySem.W.Frag) : R2 := fun x y H Q => ∃ a d, x = .str a ∧ Dq K H y d ∧ Q (.bl (isStrD a d)) H
theorem op_eqStr {X : Cx} (hu : X.A.units + 64 < cLine) : OpR X (compareOp .Eq) (rEqStr X.K) := by
  intro pins s σ H x y v u Q I rx ry h
  obtain ⟨a, d, rfl, hd, q⟩ := h
  obtain ⟨t, rfl⟩ := rx
  have hu1 : X.A.units < cLine := by omega
  have fin : ∀ {b : Bool}, RcAt X.A s (.str a t) u b → isStrD a d = b → wpAny (model X.prog X.w) X.A (compareOp .Eq (.str a t) u) (EP X pins σ Q) X.xe s := fun {b} rc e => rc X.prog X.w X.xe _ ⟨.bl b, H, I, rfl, e ▸ q⟩
  cases hd with
  | non =>
    cases ry
    exact fin (.str_none a t) rfl
  | bl b =>
    cases ry
    exact fin (.str_bool a t b) rfl
  | int i =>
    obtain ⟨t2, rfl⟩ := ry
    exact fin (.str_int a t i t2) rfl
  | str x =>
    obtain ⟨t2, rfl⟩ := ry
    exact fin (.str_str a t x t2) rfl
  | lst hs ha =>
    cases ry
    obtain ⟨its, rv, ⟨o, n, ho, hc, _, hd⟩, _⟩ := I.list hs
    exact fin (.str_list a t ⟨o, ho, hc, n, hd⟩ hu1) rfl
  | tup hs ha =>
    cases ry
    obtain ⟨its, rv, ⟨o, ho, hc, n, hd⟩, _⟩ := I.tuple hs
    exact fin (.str_tuple a t ⟨o, ho, hc, n, hd⟩ hu1) rfl
  | emp e =>
    cases ry
    obtain ⟨hz, hsm, vs, rel, o, es, ep, ho, hx, hd, hk, hp, _⟩ := dk_of I.hok e
    exact fin (rcStrDict a t ho hx.1 hd hu1) rfl
end L2

set_option Elab.async false
set_option linter.all false
set_option maxRecDepth 100000
set_option maxHeartbeats 4000000
/-! try: body, several except x as n clauses (n in slot i in each). -/
namespace L2
open PySem PySem.Spec PyProof.Rows PySem.KX
/-- what the clauses wish of an exception of the body, one after the other; slot i is the name's -/
def wManyN (K : PySem.W.Frag) (i : Nat) (Wout : WX) (D : Ends) : List (Value × (Addr → Value → Option Addr → TS)) → WX
  | [] => Wout
  | (c, ts) :: r => fun cls d σ H => ∃ b, PySem.W.exmOne K cls c = some b ∧
      (b = true → ∀ a, H a = none → ts a cls d { nx := fun σ' H' => D.nx (σ'.set i none) H', rt := D.rt, bk := fun σ' H' => D.bk (σ'.set i none) H', ct := fun σ' H' => D.ct (σ'.set i none) H' } (σ.set i (some (.ref a))) H) ∧ (b = false → wManyN K i Wout D r cls d σ H)
inductive HdsN (X : Cx) (n : Str) : List ExceptHandler → List (Value × (Addr → Value → Option Addr → TS)) → Prop
  | nil : HdsN X n [] []
  | cons {x : Str} {c : Value} {ts : Addr → Value → Option Addr → TS} {b₀ : Stmt} {suite : List Stmt} {np pos' : Pos} {hds : List ExceptHandler} {l : List (Value × (Addr → Value → Option Addr → TS))} (hc : Names X x c)
      (hsu : ∀ (a : Addr) (oe : Obj) (cls : Value) (d : Option Addr) (pn : List (Addr × Obj)), Zc cls d oe → (∃ vs, oe.data = .fields vs) → PSs (X.suite a ((a, oe) :: pn)) (b₀ :: suite) (ts a cls d)) (r : HdsN X n hds l) :
      HdsN X n (.ExceptHandler (some (.Name x np)) (some n) (b₀ :: suite) pos' :: hds) ((c, ts) :: l)
section
variable {X : Cx} {n : Str} {i : Nat} {body : List Stmt} {h₀ : ExceptHandler} {hds : List ExceptHandler} {l : List (Value × (Addr → Value → Option Addr → TS))} {pos : Pos} {tb : WX → TS} {Wout : WX}
theorem ps_try_asm (hs : X.stack = X.env :: X.outer) (hf : X.env.frame = some X.env.locals) (hN : X.N.Nodup) (hi : X.N[i]? = some n) (hln : X.env.kindOf n = some .local) (tk : Takes X Wout)
    (hb : ∀ (W : WX) (pn : List (Addr × Obj)) (xe : Value → Shared → Prop), Takes (X.tr pn xe) W → PassesOwn (model X.prog X.w) X.A X.env xe → PSs (X.tr pn xe) body (tb W))
    (hh : HdsN X n (h₀ :: hds) l) : PS X (.Try body (h₀ :: hds) [] [] pos) (fun D σ H => tb (wManyN X.K i Wout D l) D σ H) := by
  refine ⟨fun pins s σ H D I h => ?_⟩
  have ok := I.ok
  have hfr : X.A.frames = some (X.env :: X.outer) := by rw [ok.frames, hs]
  have hloc : Loc X.env.scope n := .inl hln
  refine wpAny_Try_except ?_
  refine wpAny_mono ((hb (wManyN X.K i Wout D l) (X.pn ++ pins) (fun e s₁ => wpAny (model X.prog X.w) X.A (noteFrame e X.env) (fun _ s₂ => wpAny (model X.prog X.w) X.A (setFlight e none) (fun _ s₃ =>
    wpAny (model X.prog X.w) X.A (handleBy e X.env (h₀ :: hds)) (SP X pins D) X.xe s₃) X.xe s₂) X.xe s₁) (fun u s' xx => ?_) PassesOwn.looking).run [] s σ H D (I.toTry _) h) (fun f s1 hsp => ?_) (fun e s1 he => he)
  · obtain ⟨a, B, sI, pins', σ', H', cls, d, rfl, J', nb, up, sky, na, os, ag, w⟩ := xx
    have J : Inv X pins σ' H' sI := J'.ofTry ok
    have sky' : Sky B (X.env :: X.outer) a (Zc cls d) X.env.locals s'.heap := by rw [← hs]; exact sky
    show wpAny (model X.prog X.w) X.A (noteFrame (.ref a) X.env) _ _ _
    refine Sky.land Zc.steady hfr hf sky' fun h3 fl3 up3 => ?_
    have J3 : Inv X pins σ' H' { s' with heap := h3 } := J.landed nb fl3.1 (up.trans up3) os ag
    obtain ⟨oe3, vs3, he3, hz3, hd3⟩ := fl3.there
    have notFr : ∀ {h : Heap} {o : Obj} {vs : Array Value}, h.FunFrames B (X.env :: X.outer) → h.get? a = some o → o.data = .fields vs → a ∉ frs (X.env :: X.outer) := fun {h o vs} ff e dd hm => by
      obtain ⟨_, o', e', hnf⟩ := ff.mem hm
      rw [e] at e'; cases e'
      exact hnf _ dd
    have nfr := notFr fl3.2.2.1 he3 hd3
    have nL : a ≠ X.env.locals := fun z => nfr (List.mem_filterMap.mpr ⟨X.env, List.mem_cons_self, by rw [hf, z]⟩)
    have nF : a ∉ X.fs := fun hm => by
      obtain ⟨e, he, q⟩ := List.mem_filterMap.mp hm
      exact nfr (List.mem_filterMap.mpr ⟨e, List.mem_cons_of_mem _ he, q⟩)
    have S3 := J3.suite he3 hd3 na nL nF
    have go : ∀ {hds' : List ExceptHandler} {l' : List (Value × (Addr → Value → Option Addr → TS))}, HdsN X n hds' l' → wManyN X.K i Wout D l' cls d σ' H' →
        wpAny (model X.prog X.w) X.A (handleBy (.ref a) X.env hds') (SP X pins D) X.xe { s' with heap := h3 } := by
      intro hds' l' hk
      induction hk with
      | nil =>
        intro w
        refine wpAny_handleBy_nil ?_
        obtain ⟨k1, k2, k3, oe, vs, T, oT, ts', he, hz, hd, h1, hr⟩ := id fl3
        unfold PySem.passOn
        refine wpAny_bind (wpAny_field he hd h1 ?_)
        rw [if_neg (show ¬ ((Value.ref T == Value.none) = true) from by simp)]
        have fin : wpAny (model X.prog X.w) X.A (setFlight (.ref a) X.env.frame) (fun _ s4 => wpAny (model X.prog X.w) X.A (throw (.ref a) : Sem Flow) (SP X pins D) X.xe s4) X.xe { s' with heap := h3 } := by
          rw [hf]
          refine HandSPX.setFlight_upZ fl3 fun h4 hh4 up4 => wpAny_throw (tk _ _ ?_)
          exact ⟨a, B, sI, pins, σ', H', cls, d, rfl, J, nb, (up.trans up3).trans up4, .inr (.inr (by rw [hs]; exact hh4)), na, os, ag, w⟩
        first
          | exact wpAny_bind (wpAny_pure (wpAny_bind fin))
          | exact wpAny_bind fin
      | @cons x c ts b₀ suite np pos' hds2 l2 hc hsu r ih =>
        intro w
        obtain ⟨b, hb1, hyes, hno⟩ := w
        refine wpAny_handleBy_cons (codeAny_handlers_test ?_) (by intro q; cases q)
        have LT : PySem.W.Looks (model X.prog X.w) h3 (typeOf (.ref a)) cls := fun A Q E s k q => wpAny_typeOf_ref (k _ _ he3) (by rw [hz3.1]; exact q)
        have LM := PySem.W.exm_one (M := model X.prog X.w) (J3.kIn) LT hb1
        have test : ∀ {Q : Value → Shared → Prop} {E : Value → Shared → Prop}, Q c { s' with heap := h3 } → wpAny (model X.prog X.w) (X.A.mark (some (.ref a))) (eval (.Name x np) X.env) Q E { s' with heap := h3 } := fun {Q E} q => by
          obtain ⟨hg, hdbg, hm | ⟨hm, hv, hnn⟩⟩ := hc
          · exact ld_glob (X := X.suite a ((a, oe3) :: (X.pn ++ pins))) S3 hg hm q hdbg
          · exact ld_blt (X := X.suite a ((a, oe3) :: (X.pn ++ pins))) S3 hg hm hv q hnn hdbg
        refine test (LM.here ?_)
        cases b with
        | true =>
          refine codeAny_handlers_suite_as ?_
          refine HandSPX.lands_againZ fl3 fun h4 fl4 up4 => ?_
          have J4 : Inv X pins σ' H' { s' with heap := h4 } := J.landed nb fl4.1 ((up.trans up3).trans up4) os ag
          obtain ⟨oe4, vs4, he4, hz4, hd4⟩ := fl4.there
          have S4 := J4.suite he4 hd4 na nL nF
          refine store_ok (X := X.suite a ((a, oe4) :: (X.pn ++ pins))) (v := .ref a) S4 hN hi hloc rfl (fun s5 S5 => ?_) (.inr hln)
          refine wpAny_mono ((hsu a oe4 cls d (X.pn ++ pins) hz4 ⟨_, hd4⟩).run [] s5 _ H' _ S5 (hyes rfl a na)) (fun f s6 hsp => ?_) (fun _ _ z => False.elim z)
          have end_ : ∀ {σ6 : St} {H6 : Hp} {Q : Shared → Prop}, Inv (X.suite a ((a, oe4) :: (X.pn ++ pins))) [] σ6 H6 s6 → (∀ s7, Inv X pins (σ6.set i none) H6 s7 → Q s7) →
              wpAny (model X.prog X.w) X.A (do bindName X.env n .none; unbindBehindTheSuite X.env n pos') (fun _ s7 => Q s7) X.xe s6 := fun {σ6 H6 Q} S6 hq => gone_ok (S6.unsuite ok) hN hi hln hq
          cases f with
          | next =>
            obtain ⟨σ6, H6, S6, q6⟩ := hsp
            exact end_ S6 fun s7 J7 => ⟨_, _, J7, q6⟩
          | brk =>
            obtain ⟨σ6, H6, S6, q6⟩ := hsp
            exact end_ S6 fun s7 J7 => ⟨_, _, J7, q6⟩
          | cont =>
            obtain ⟨σ6, H6, S6, q6⟩ := hsp
            exact end_ S6 fun s7 J7 => ⟨_, _, J7, q6⟩
          | ret u =>
            obtain ⟨v6, σ6, H6, S6, r6, q6⟩ := hsp
            exact end_ S6 fun s7 J7 => ⟨_, _, _, J7, r6, q6⟩
        | false =>
          show wpAny _ X.A (handleBy (.ref a) X.env hds2) _ _ _
          exact ih (hno rfl)
    exact go hh w
  · cases f with
    | next =>
      obtain ⟨σ', H', J', q⟩ := hsp
      exact wpAny_execs_nil ⟨σ', H', J'.ofTry ok, q⟩
    | brk =>
      obtain ⟨σ', H', J', q⟩ := hsp
      exact ⟨σ', H', J'.ofTry ok, q⟩
    | cont =>
      obtain ⟨σ', H', J', q⟩ := hsp
      exact ⟨σ', H', J'.ofTry ok, q⟩
    | ret u =>
      obtain ⟨v, σ', H', J', r, q⟩ := hsp
      exact ⟨v, σ', H', J'.ofTry ok, r, q⟩
end
end L2

set_option Elab.async false
set_option linter.all false
set_option maxRecDepth 100000
set_option maxHeartbeats 4000000
/-! The end of a law with lambdas, no repr under way. -/
namespace LamX
open PySem PySem.Spec PyProof.Rows L2
theorem law_callTG {P : Program} {w : World} {K : PySem.W.Frag} {mg mb : Str → Option Value} {CX : CXT} {k : Nat} {fa a : Addr} {cs : List (Addr × Addr)} {fd : FuncData} {x : Str} {sp : Sp} {s₁ : Shared} {vs : List Value} {ns : List Int}
    (KX : K.In s₁.heap) (hns : s₁.heap.Ns mainGlobals mg) (hb : s₁.heap.Ns builtinsNs mb) (hbb : ∀ x : Str, x ≠ "__name__" → mb x = bootBuiltins x) (hlim : s₁.heap.NoLimit) (hg : s₁.gens = #[])
    (hT : ∀ p ∈ cs, s₁.heap.get? p.2 = some { cls := .none, data := .fields #[] }) (nT : ∀ p ∈ cs, K.lookup p.2 = none) (C : ∀ p ∈ cs, PySem.W.CodeHd s₁.heap p.1 p.2)
    (hbm : ∃ (bm : Addr) (ob : Obj), mg "__builtins__" = some (.ref bm) ∧ bm ≠ builtinsNs ∧ s₁.heap.get? bm = some ob ∧ ob.cls = .type "module" ∧ ob.dict = some builtinsNs ∧ ob.data = .plain)
    (ha : s₁.heap.get? a = some { cls := .type "list", data := .seq vs.toArray }) (hi : IntsAre vs ns) (hl : ns.length ≤ sizeLine) (hr : Room k callerA)
    (F : ∀ base : Heap, K.In base → base.Ns mainGlobals mg → (∀ p ∈ cs, TabB base mg p.1 p.2) → FnG P w K mg base CX k fa fd [x] sp) (hbind : ∀ (s : Shared) (u : Value), BindsTo s fd ⟨[u], []⟩ [(x, u)])
    (hsp : ∀ H : Hp, (∀ p ∈ cs, H p.2 = some (.tbl #[])) → SqL K H a (ns.map V.int) → sp [.ref a] H (fun v _ => v = .bl true) fun _ _ _ => False)
    (hCX : ∀ H e s', CX [] H s₁ (fun _ _ _ => False) e s' → False) :
    codeAny (model P w) callerA (.call (.ref fa) ⟨[.ref a], []⟩) (fun r s' => r = .ok (.ret (.bool true)) ∧ OldK s₁.heap s'.heap ∧ s'.os = s₁.os ∧ AllBare s'.gens) s₁ := by
  have rv := vals_ints hi
  have lenV := hi.length
  have isT : ∀ b : Addr, b ∈ cs.map (·.2) → s₁.heap.get? b = some { cls := .none, data := .fields #[] } := fun b hb => by
    obtain ⟨p, hp, e⟩ := List.mem_map.mp hb
    rw [← e]
    exact hT p hp
  have aT : a ∉ cs.map (·.2) := fun z => by
    have q := isT a z
    rw [ha] at q
    have z' : Data.seq vs.toArray _ = Data.fields #[] := congrArg Obj.data (Option.some.inj q)
    cases z'
  have memT : ∀ p ∈ cs, p.2 ∈ cs.map (·.2) := fun p hp => List.mem_map.mpr ⟨p, hp, rfl⟩
  -- from an abstract heap in which nothing but the script and the tables may be tracked
  have core : ∀ H : Hp, (∀ p ∈ cs, H p.2 = some (.tbl #[])) → (∀ b, H b = none ∨ b ∈ cs.map (·.2) ∨ ∃ o xs, H b = some (.frz o (.lst xs))) → SqL K H a (ns.map V.int) → HOk P w H s₁.heap → (∀ b, H b ≠ none → b = a ∨ b ∈ cs.map (·.2)) → (H a ≠ none → K.lookup a = none) →
      codeAny (model P w) callerA (.call (.ref fa) ⟨[.ref a], []⟩) (fun r s' => r = .ok (.ret (.bool true)) ∧ OldK s₁.heap s'.heap ∧ s'.os = s₁.os ∧ AllBare s'.gens) s₁ := by
    intro H hH hO hS hok hA hK
    have base_of : ∀ {b : Addr} {o : Obj}, s₁.heap.get? b = some o → H b = none → (hidT s₁.heap H).get? b = some o := fun e n => hidT_get e n
    have noD : ∀ {b : Addr} {o : Obj}, s₁.heap.get? b = some o → (∀ vs n, o.data ≠ .seq vs n) → o.data ≠ .fields #[] → H b = none := fun {b o} e h1 h2 => by
      cases q : H b with
      | none => rfl
      | some u =>
        rcases hA b (by rw [q]; simp) with e' | e'
        · rw [e', ha] at e
          cases e
          exact (h1 _ _ rfl).elim
        · rw [isT b e'] at e
          cases e
          exact (h2 rfl).elim
    have noA : ∀ {b : Addr} {o : Obj} {es : Array DictEntry} {ep : Nat}, s₁.heap.get? b = some o → o.data = .dict es ep → H b = none := fun {b o es ep} e d => by
      refine noD e (fun vs n z => ?_) fun z => ?_
      · rw [d] at z
        cases z
      · rw [d] at z
        cases z
    have nsK : ∀ {b : Addr} {m : Str → Option Value}, s₁.heap.Ns b m → (hidT s₁.heap H).Ns b m := fun {b m} ⟨o, es, ep, e, d, r⟩ => ⟨o, es, ep, base_of e (noA e d), d, r⟩
    have hKb : K.In (hidT s₁.heap H) := fun b o e => base_of (KX b o e) (by
      cases q : H b with
      | none => rfl
      | some u =>
        rcases hA b (by rw [q]; simp) with e' | e'
        · rw [e'] at e q
          rw [hK (by rw [q]; simp)] at e
          cases e
        · obtain ⟨p, hp, ep⟩ := List.mem_map.mp e'
          rw [← ep, nT p hp] at e
          cases e)
    have hM : L2.Mod K mg (hidT s₁.heap H) := ⟨hKb, nsK hns, ⟨mb, nsK hb, hbb⟩, let ⟨mc, h1, h2⟩ := hlim; ⟨mc, nsK h1, h2⟩⟩
    have TB : ∀ p ∈ cs, TabB (hidT s₁.heap H) mg p.1 p.2 := fun p hp => by
      have hTp := hT p hp
      refine ⟨?_, ?_, fun z => ?_⟩
      · obtain ⟨o, us, file, tf, flags, tg, inF, text, tt, e1, r1, r2, r3, r4, r5, r6, r7, r8, hne⟩ := C p hp
        refine ⟨o, us, file, tf, flags, tg, inF, text, tt, base_of e1 (noD e1 (fun vs n z => ?_) fun z => ?_), r1, r2, r3, r4, r5, r6, r7, r8, hne⟩
        · rw [r2] at z
          cases z
        · rw [r2] at z
          cases z
          simp at r3
      · obtain ⟨bm, ob, b1, b2, b3, b4, b5, b6⟩ := hbm
        have nG : bm ≠ mainGlobals := fun q => by
          obtain ⟨o, es, ep, e, hd, _⟩ := hns
          rw [q, e] at b3
          cases b3
          rw [hd] at b6
          cases b6
        have nP : bm ≠ p.2 := fun q => by
          rw [q, hTp] at b3
          cases b3
          cases b6
        refine ⟨bm, ob, b1, b2, nG, nP, base_of b3 (noD b3 (fun vs n z => ?_) fun z => ?_), b4, b5, b6⟩
        · rw [b6] at z
          cases z
        · rw [b6] at z
          cases z
      · obtain ⟨o, es, ep, e, hd, _⟩ := hns
        rw [z, hTp] at e
        cases e
        cases hd
    have e0 : Env0 P w K mg (hidT s₁.heap H) callerA [] s₁ H := ⟨rfl, hM, fun b o e => of_hidT e, Nat.le_of_eq (hidT_size _ _), trivial, fun b hb => absurd (show b ∈ ([] : List Addr) from hb) (by simp), hok, .of_eq hg⟩
    refine codeAny_mono ((F _ hKb (nsK hns) TB).run callerA [] s₁ H ⟨[.ref a], []⟩ [.ref a] [.ref a] _ _ ⟨hr, rfl⟩ e0 (hbind s₁ (.ref a)) (.cons rfl .nil) (hsp H hH hS)) fun r s' h => ?_
    cases r with
    | error e => exact (hCX H e s' h).elim
    | ok fl =>
      cases fl with
      | next => exact False.elim h
      | brk => exact False.elim h
      | cont => exact False.elim h
      | ret u =>
        obtain ⟨v, H', os, bare, un, hok', r', q⟩ := h
        have q' : v = .bl true := q
        subst q'
        obtain rfl : u = Value.bool true := r'
        have key : ∀ b o, b ∉ cs.map (·.2) → s₁.heap.get? b = some o → s'.heap.get? b = some o := fun b o nb e => by
          cases q : H b with
          | none => exact un.keep b o e q (by intro z; exact absurd (show b ∈ ([] : List Addr) from z) (by simp)) (by simp)
          | some u =>
            rcases hO b with z | z | ⟨ob, xs, z⟩
            · rw [q] at z; cases z
            · exact absurd z nb
            · have z2 := un.frzs b ob _ z
              obtain ⟨e1, _⟩ := hok b _ z
              obtain ⟨e2, _⟩ := hok' b _ z2
              rw [e] at e1; cases e1
              exact e2
        have grown : ∀ p ∈ cs, ∃ more : Array Value, s'.heap.get? p.2 = some { cls := .none, data := .fields more } := fun p hp => by
          obtain ⟨more, z⟩ := un.tbls p.2 #[] (hH p hp)
          exact ⟨_, hok' p.2 _ z⟩
        refine ⟨rfl, ⟨fun b o e => ?_, fun b o e => ?_⟩, os, bare⟩
        · by_cases hb : b ∈ cs.map (·.2)
          · obtain ⟨p, hp, ep⟩ := List.mem_map.mp hb
            obtain ⟨more, hm⟩ := grown p hp
            rw [← ep] at e ⊢
            rw [hT p hp] at e
            cases e
            exact .inr (.inl ⟨((C p hp).tab (hT p hp)).isCodeTable, rfl, #[], more, rfl, by rw [Array.empty_append]; exact hm⟩)
          · exact .inl (key b o hb e)
        · by_cases hb : b ∈ cs.map (·.2)
          · obtain ⟨p, hp, ep⟩ := List.mem_map.mp hb
            obtain ⟨more, hm⟩ := grown p hp
            rw [← ep]
            exact ⟨_, hm⟩
          · exact ⟨o, key b o hb e⟩
  cases hk : K.lookup a with
  | some o =>
    have e := KX a o hk
    rw [ha] at e
    cases e
    refine core (fun b => if b ∈ cs.map (·.2) then some (.tbl #[]) else none) (fun p hp => if_pos (memT p hp)) (fun b => ?_) (.inr ⟨_, vs.toArray, _, hk, rfl, rfl, rfl, by rw [List.size_toArray, lenV]; exact hl, by simpa using rv⟩) (fun b u z => ?_) (fun b z => ?_) fun z => absurd (show (if a ∈ cs.map (·.2) then some (HO.tbl #[]) else none) = none from if_neg aT) z
    · by_cases hb : b ∈ cs.map (·.2)
      · exact .inr (.inl hb)
      · exact .inl (if_neg hb)
    · by_cases hb : b ∈ cs.map (·.2)
      · have z' := (if_pos hb).symm.trans z
        cases z'
        exact isT b hb
      · have z' := (if_neg hb).symm.trans z
        cases z'
    · by_cases hb : b ∈ cs.map (·.2)
      · exact .inr hb
      · exact absurd (if_neg hb) z
  | none =>
    refine core (fun b => if b = a then some (.frz { cls := .type "list", data := .seq vs.toArray } (.lst (ns.map V.int))) else if b ∈ cs.map (·.2) then some (.tbl #[]) else none) (fun p hp => (if_neg (show ¬ p.2 = a from fun z => aT (by rw [← z]; exact memT p hp))).trans (if_pos (memT p hp))) (fun b => ?_)
      (.inl (.inr ⟨{ cls := .type "list", data := .seq vs.toArray }, if_pos rfl⟩)) (fun b u z => ?_) (fun b z => ?_) fun _ => hk
    · by_cases hb : b = a
      · exact .inr (.inr ⟨_, _, if_pos hb⟩)
      · by_cases hb2 : b ∈ cs.map (·.2)
        · exact .inr (.inl hb2)
        · exact .inl ((if_neg hb).trans (if_neg hb2))
    · by_cases hb : b = a
      · have z' := (if_pos hb).symm.trans z
        cases z'
        rw [hb]
        exact ⟨ha, by rw [List.length_map]; exact hl, vs, _, rv, ha⟩
      · have z1 := (if_neg hb).symm.trans z
        by_cases hb2 : b ∈ cs.map (·.2)
        · have z' := (if_pos hb2).symm.trans z1
          cases z'
          exact isT b hb2
        · have z' := (if_neg hb2).symm.trans z1
          cases z'
    · by_cases hb : b = a
      · exact .inl hb
      · by_cases hb2 : b ∈ cs.map (·.2)
        · exact .inr hb2
        · exact absurd ((if_neg hb).trans (if_neg hb2)) z
def LawAtG (l : PySem.W.OpenLaw) (w : World) (K : PySem.W.Frag) (CX : CXT) (k n : Nat) (x : Str) (mg : Str → Option Value) (fa : Addr) (h : Heap) : Prop :=
  ∃ (fd : FuncData) (cs : List (Addr × Addr)) (sp : Sp), (∀ p ∈ cs, h.get? p.2 = some { cls := .none, data := .fields #[] }) ∧ (∀ p ∈ cs, K.lookup p.2 = none) ∧ (∀ p ∈ cs, PySem.W.CodeHd h p.1 p.2) ∧ (∀ (s : Shared) (u : Value), BindsTo s fd ⟨[u], []⟩ [(x, u)]) ∧
    (∀ (H : Hp) (a : Addr) (ns : List Int), ns.length ≤ n → (∀ z ∈ ns, Builtin.Int.intBits z ≤ 1048576) → (∀ p ∈ cs, H p.2 = some (.tbl #[])) → SqL K H a (ns.map V.int) → sp [.ref a] H (fun v _ => v = .bl true) fun _ _ _ => False) ∧
    ∀ base : Heap, K.In base → base.Ns mainGlobals mg → (∀ p ∈ cs, TabB base mg p.1 p.2) → FnG l.prog w K mg base CX k fa fd [x] sp
theorem walk_ofTG {l : PySem.W.OpenLaw} {n k : Nat} {q : Program} {loose : List Str} {XP : (Str → Option Value) → Heap → Prop} {YP : World → Heap → Prop} {d : DefRec} {K : Params → PySem.W.Frag} {CX : World → CXT} {x : Str}
    (hn : l.most = some n) (hn2 : n ≤ sizeLine) (hdf : d.params.defaults = []) (hr : Room k callerA) (hY : ∀ (w : World) (h : Heap), YP w h → (K w.params).In h)
    (F : ∀ (w : World) (mg : Str → Option Value) (fa : Addr) (h : Heap), YP w h → (K w.params).In h → h.Ns mainGlobals mg → mg d.name = some (.ref fa) → LawAtG l w (K w.params) (CX w) k n x mg fa h)
    (hCX : ∀ (w : World) (H : Hp) (s : Shared) (e : Value) (s' : Shared), CX w [] H s (fun _ _ _ => False) e s' → False) :
    PySem.W.WalkO q loose XP YP l.row.toRowW d [] (fun f vs => PySem.call f vs) := by
  refine Att.attach_callB hn hdf fun w s₀ s₁ mg mb fa o pm cd doc a vs ns G Y ho hd hcd hmg hobj hints hlen hbits hg => ?_
  have KX := hY w _ Y
  obtain ⟨fd, cs, sp, hT, nT, C, hb, hsp, hF⟩ := F w mg fa _ Y KX G.T.g hmg
  exact law_callTG KX G.T.g G.T.b G.T.builtins G.T.nolimit hg hT nT C G.T.bmain hobj hints (Nat.le_trans hlen hn2) hr hF hb (fun H hH hS => hsp H a ns hlen hbits hH hS) fun H e s' => hCX w H s₁ e s'
end LamX

set_option Elab.async false
set_option linter.all false
set_option maxRecDepth 100000
set_option maxHeartbeats 4000000
/-! Lambdas handed to a def, no repr under way. -/
namespace LamX
open PySem PySem.Spec PyProof.Rows L2
section
variable {X : Cx} {pins : List (Addr × Obj)} {σ : L2.St} {H HZ : Hp} {s s1 : Shared}
theorem pe_actG {CXg : CXT} {Eg : XK} {Ng : List Str} {qg : Str} {sg : Scope} {g f c' : Addr} {cdg pm ctv : Value} {params : Arguments} {body : Expr} {scope : Scope} {k i : Nat} {a : Str} {pn : List (Addr × Obj)} {xe : Value → Shared → Prop} {W : WX} {E : XK} {tb : TE} {p1 p2 : Pos}
    (I : Inv X pins σ H s) (L : LamS X.env.scope scope) (hf : s.heap.get? f = some (PySem.W.kla_obj "<lambda>" (X.env.qual ++ "<lambda>") params body scope (cloFrom X.env.cells scope.names []) pm c' ctv)) (hfn : H f = none) (hfr : f ∉ frs X.stack)
    (hbind : bindArgs (PySem.W.kla_fn "<lambda>" (X.env.qual ++ "<lambda>") params body scope (cloFrom X.env.cells scope.names []) pm (.ref c') ctv) ⟨[], []⟩ = pure [])
    (tk : Takes ((cxOf CXg X.prog X.w X.K X.mg X.base Ng qg sg g cdg X.A X.stack s H Eg).tr pn xe) W) (hW : ∀ cls d σ' H', E cls d H' → W cls d σ' H') (hr : RoomG (k + 1) (X.A.deeper (envOfC qg sg s.heap.objs.size g cdg)))
    (hbody : ∀ (A : Around) (outer : List Env) (s : Shared) (H : Hp), RoomG k (A.deeper (lamEnv X scope s.heap.objs.size f c')) → PE (lamCx X A outer s H E scope f c') body tb)
    (hN : Ng[i]? = some a) (hv : Vis sg a) (hd : (a == ("__debug__" : Str)) = false := by decide) (hcd : (a == ("__classdict__" : Str)) = false := by decide) :
    PE ((cxOf CXg X.prog X.w X.K X.mg X.base Ng qg sg g cdg X.A X.stack s H Eg).tr pn xe) (.Call (.Name a p1) [] [] p2)
      (fun σZ HZ Q => σZ[i]? = some (some (.ref f)) ∧ HZ c' = some (CodeO c' (X.env.qual ++ "<lambda>")) ∧ tb σ HZ Q) := by
  refine ⟨fun pinsZ sZ σZ HZ Q IZ h => ?_⟩
  obtain ⟨hs, hc, ht⟩ := h
  refine wpAny_Call_Name_kw (thn ((pe_var (pos := p1) (i := i) hN hv hd hcd).run pinsZ sZ σZ HZ (fun v H1 => v = .ref f ∧ H1 = HZ) IZ ⟨.ref f, hs, rfl, rfl⟩) fun u s1 ⟨v, H1, I1, r1, q1⟩ => ?_)
  obtain ⟨ev, eH⟩ := q1
  subst ev
  rw [eH] at I1
  obtain rfl : u = Value.ref f := r1
  have of1 : s1.heap.get? f = some (PySem.W.kla_obj "<lambda>" (X.env.qual ++ "<lambda>") params body scope (cloFrom X.env.cells scope.names []) pm c' ctv) := I1.base.keep f _ hf hfn hfr (fun z => nomatch (show f ∈ ([] : List Addr) from z))
  refine PySem.W.callWith_F0 ⟨_, _, _, _, of1⟩ ?_
  have un : Un (frs X.stack) [] H HZ s.heap s1.heap := I1.base
  obtain ⟨⟨oc, vs, t, hoc, hdc, hvc⟩, _, _⟩ := I1.hok c' _ hc
  have rc : codeAny (model X.prog X.w) (X.A.deeper (envOfC qg sg s.heap.objs.size g cdg)) (.call (.ref f) ⟨[], []⟩) (CR (L2.CX X.prog X.w) (envOfC qg sg s.heap.objs.size g cdg :: X.stack) X.prog X.w HZ s1 Q E) s1 := by
    refine PySem.W.kla_callFunE hr.r.depth of1 rfl L.co L.gen rfl ⟨c', oc, vs, t, rfl, hoc, hdc, hvc⟩ ?_
    rw [hbind]
    refine wpAny_pure (wpAny_newFunctionEnv (fun y hy => (L.own y hy).2) (fun y hy => absurd hy (by simp)) (fun h₁ hns hsb => ⟨I1.nolimit.fresh _ hsb, ?_⟩) L.kind)
    show codeAny _ _ (.expr body (lamEnv X scope s1.heap.objs.size f c')) _ _
    have kp : ∀ b o, s1.heap.get? b = some o → h₁.get? b = some o := fun b o e => hsb.extBut b o (Nat.ne_of_lt (Heap.lt_size e)) (Heap.get?_push_of_some _ e)
    have J : Inv (lamCx X (X.A.deeper (envOfC qg sg s.heap.objs.size g cdg)) (envOfC qg sg s.heap.objs.size g cdg :: X.stack) s1 HZ E scope f c') [] σ HZ { s1 with heap := h₁, toks := s1.toks + ([] : List (Str × Value)).length } :=
      lam_start2 I L I1.env0 hr.r.hd un hns kp
    refine PySem.W.kla_codeExpr (wpAny_mono ((hbody _ _ s1 HZ (hr.deeper _)).run [] _ _ HZ Q J ht) (fun v s' hq => ?_) fun e s' hq => hq)
    obtain ⟨w', H', J', rv, q⟩ := hq
    exact ⟨w', H', J'.os, J'.bare, J'.base, J'.hok, rv, q⟩
  have hx : Passes (L2.CX X.prog X.w) ((cxOf CXg X.prog X.w X.K X.mg X.base Ng qg sg g cdg X.A X.stack s H Eg).tr pn xe) E := passes_call tk hW
  refine wpAny_call (codeAny_mono rc fun r s' hq => ?_)
  cases r with
  | error e => exact hx pinsZ σZ HZ s1 e s' I1 hq
  | ok fl =>
    cases fl with
    | ret u => exact I1.after hq
    | next => exact False.elim hq
    | brk => exact False.elim hq
    | cont => exact False.elim hq
end
section
variable {X : Cx}
theorem pe_lamcallG {T : List (Addr × Str)} {TT : (XK → Hp → VK → Prop) → Hp → VK → Prop} {x a : Str} {g c P : Addr} {k : Nat} {pg : Arguments} {bg : List Stmt} {sg : Scope} {dV kV doc pm cdv ct oc : Value} {an od : Option Addr} {osl : Array (Option Value)} {Ng : List Str}
    {params : Arguments} {body : Expr} {scope : Scope} {t : XK → TE} {p lpos pos : Pos} (hg : Gl X x) (hm : X.mg x = some (.ref g)) (hk : PySem.W.keepIn X.K (.ref g) = true)
    (lk : X.K.lookup g = some ⟨oc, od, .func (PySem.W.fnOf x x pg bg sg dV kV doc pm an cdv ct), osl⟩) (hcg : PySem.W.codeIn X.K cdv x = true) (hb : L2.Binds X.K (PySem.W.fnOf x x pg bg sg dV kV doc pm an cdv ct) [a] []) (Sg : FnScope Ng [a] sg) (hNg : Ng[0]? = some a) (hva : Vis sg a)
    (hG : GivesTo X Ng x sg g cdv bg a (X.env.qual ++ "<lambda>") TT)
    (TB : TabB X.base X.mg c P) (hcode : X.env.code = .ref c) (hmT : (P, X.env.qual ++ "<lambda>") ∈ T) (hu : ∀ p ∈ T, p.1 = P → p.2 = X.env.qual ++ "<lambda>") (hr : RoomG (k + 2) X.A) (L : LamS X.env.scope scope) (hdef : defaultsOf params X.env = ([], []))
    (hbind : ∀ (q : Str) (cl : List (Str × Addr)) (pm cv ctv : Value), bindArgs (PySem.W.kla_fn "<lambda>" q params body scope cl pm cv ctv) ⟨[], []⟩ = pure [])
    (hbody : ∀ (A : Around) (outer : List Env) (s : Shared) (H : Hp) (E : XK) (f c' : Addr), RoomG k (A.deeper (lamEnv X scope s.heap.objs.size f c')) → PE (lamCx X A outer s H E scope f c') body (t E))
    (hdb : (x == ("__debug__" : Str)) = false := by decide) (hd : (a == ("__debug__" : Str)) = false := by decide) (hcd : (a == ("__classdict__" : Str)) = false := by decide) :
    PE X (.Call (.Name x p) [.Lambda params body scope lpos] [] pos) (tLam T TT t) := by
  refine ⟨fun pins s σ H Q I h => ?_⟩
  obtain ⟨hT, h⟩ := h
  refine wpAny_Call_Name_kw (ld_glob I hg hm ?_ hdb)
  refine PySem.W.callWith_K (h₀ := X.base) I.ok.mod.kin hk ?_ (by rfl) (by rfl)
  show wpAny _ _ (spliced ((false, eval (.Lambda params body scope lpos) X.env) :: backTo pos (starEach [] X.env))) _ _ s
  refine Calls.spliced_cons (lam_make2 I TB hcode hmT hu hT hdef (L.has I.ok) fun f c' pm' ctv H1 s' I1 eN T1 hf hfn hfr hco => ?_)
  refine Calls.spliced_nil ⟨I1.kIn, ?_⟩
  have rc : codeAny (model X.prog X.w) X.A (.call (.ref g) ⟨[.ref f], []⟩) (CR C8.CX0 X.stack X.prog X.w H1 s' Q C8.E0) s' := by
    refine run_ofS (N := Ng) (ps := [a]) (us := [.ref f]) (vs := [.ref f]) lk hcg Sg hr.r I1.env0 (hb s' [.ref f] I1.kIn rfl) (.cons rfl .nil) rfl fun hr' => ?_
    obtain ⟨t', ht', hq'⟩ := hG f c' s' H1 Q (fun E H' Q' => t E σ H' Q') (fun W pn xe E p1 p2 tk hW => pe_actG (i := 0) I1 L hf hfn hfr (hbind _ _ _ _ _) tk hW ⟨hr', hr.g⟩ (fun A outer s H hr2 => hbody A outer s H E f c' hr2) hNg hva hd hcd) hco (h H1 eN T1)
    exact ⟨t', ht'.nox, hq'⟩
  refine wpAny_call (codeAny_mono rc fun r s2 hq => ?_)
  cases r with
  | error e => exact (show False from hq).elim
  | ok fl =>
    cases fl with
    | ret u => exact I1.after hq
    | next => exact False.elim hq
    | brk => exact False.elim hq
    | cont => exact False.elim hq
end
end LamX

set_option Elab.async false
set_option linter.all false
set_option maxRecDepth 100000
set_option maxHeartbeats 4000000
/-! repr of any data; isinstance of the exception that a suite holds. -/
namespace L2
open PySem PySem.Spec PyProof.Rows PySem.KX
section
variable {X : Cx}
/-- repr(x) -/
def rReprW (K : PySem.W.Frag) : List V → Hp → VK → Prop := fun xs H Q => ∃ (v : V) (d : PyData), xs = [v] ∧ ((d.hasDict = false ∧ Dq K H v d) ∨ Dn K H v d) ∧ d.showable = true ∧ d.depth ≤ 60 ∧ d.shown.length ≤ sizeLine ∧ Q (.str d.shown) H
theorem call_reprW (hu : X.A.units + 64 < cLine) (hg : X.A.guards = some []) : CallR X (.builtin "repr") (rReprW X.K) := by
  intro pins s σ H xs us Q I r h
  obtain ⟨v, d, rfl, hd, h1, h3, h4, q⟩ := h
  have hd' : Dq X.K H v d := by
    rcases hd with ⟨_, hd⟩ | hd
    · exact hd
    · exact Dn.dq _ _ hd
  have rf : ∀ a, v = .ref a → wpAny (model X.prog X.w) X.A (call (.builtin "repr") us) (EP X pins σ Q) X.xe s := fun a e => by
    subst e
    exact call_reprQ hu hg pins s σ H _ us Q I r ⟨a, d, rfl, hd, h1, h3, h4, q⟩
  cases hd' with
  | non =>
    obtain ⟨u, rfl, ru⟩ := vals1 r
    cases ru
    exact PySem.P.repr_of_none ⟨.str _, H, I.kept (t' := s.toks + 1) fun _ _ e => e, ⟨_, rfl⟩, q⟩
  | bl b =>
    obtain ⟨u, rfl, ru⟩ := vals1 r
    cases ru
    exact PySem.P.repr_of_bool ⟨.str _, H, I.kept (t' := s.toks + 1) fun _ _ e => e, ⟨_, rfl⟩, q⟩
  | int i =>
    obtain ⟨u, rfl, t, rfl⟩ := vals1 r
    exact PySem.P.repr_of_int (of_decide_eq_true h1) ⟨.str _, H, I.kept (t' := s.toks + 1) fun _ _ e => e, ⟨_, rfl⟩, q⟩
  | str x =>
    obtain ⟨u, rfl, t, rfl⟩ := vals1 r
    exact PySem.P.repr_of_str ⟨.str _, H, I.kept (t' := s.toks + 1) fun _ _ e => e, ⟨_, rfl⟩, q⟩ h4
  | lst hs ha => exact rf _ rfl
  | tup hs ha => exact rf _ rfl
  | emp h => exact rf _ rfl
/-- isinstance(e, c), e the exception that the suite holds: class cls, dict d -/
def rIsX (K : PySem.W.Frag) (a : Addr) (cls : Value) (d : Option Addr) : List V → Hp → VK → Prop := fun xs H Q => ∃ (c : V) (u : Value) (b : Bool) (D : Addr), xs = [.ref a, c] ∧ ClsV c u ∧ cls = .ref D ∧ d = none ∧ XI K D ∧ PySem.W.kitOne K (.ref D) u = some b ∧ Q (.bl b) H
theorem call_isX {a : Addr} {oe : Obj} {cls : Value} {d : Option Addr} {pn : List (Addr × Obj)} (hz : Zc cls d oe) (hf : ∃ vs, oe.data = .fields vs) : CallR (X.suite a ((a, oe) :: pn)) (.builtin "isinstance") (rIsX X.K a cls d) := by
  intro pins s σ H xs us Q I r h
  obtain ⟨c, u, b, D, rfl, k, rfl, rfl, T, e, q⟩ := h
  obtain ⟨u1, u2, rfl, r1, r2⟩ := vals2 r
  have e2 := k.eq r2
  subst e2
  obtain rfl : u1 = Value.ref a := r1
  obtain ⟨hget, _⟩ := I.pin (a, oe) (List.mem_append.mpr (.inl List.mem_cons_self))
  obtain ⟨vs, hv⟩ := hf
  have J : PySem.W.InstAt s.heap a oe D none := by
    obtain ⟨oc, od, oda, osl⟩ := oe
    obtain ⟨h1, h2⟩ := hz
    dsimp only at h1 h2 hv
    subst h1 h2 hv
    exact ⟨hget, rfl, rfl, trivial⟩
  exact PySem.W.kia_one (PySem.W.kitx_exc (od := none) T.cl T.ga T.gg T.ex T.ca T.cn T.ct T.mo) I.kIn J e (fun z => nomatch z) fun tk => ⟨.bl b, H, I.tok tk, rfl, q⟩
/-- bs.count(k), bs bools -/
def eqb (k : Bool) (v : Value) : Bool := match v with
  | .bool b => b == k
  | _ => false
theorem vals_bl : ∀ {bs : List Bool} {us : List Value}, Vals (bs.map V.bl) us → us = bs.map Value.bool
  | [], _, h => by cases h; rfl
  | b :: r, _, h => by
    cases h with
    | cons h1 t =>
      cases h1
      rw [vals_bl t]
      rfl
theorem countb {k : Bool} : ∀ bs : List Bool, (bs.map Value.bool).countP (eqb k) = bs.count k
  | [] => rfl
  | b :: r => by
    have ih := countb (k := k) r
    rw [List.map_cons, List.countP_cons, List.count_cons, ih] <;> rfl
def rCntB (K : PySem.W.Frag) : V → List V → Hp → VK → Prop := fun x xs H Q => ∃ (p : Addr) (bs : List Bool) (k : Bool), x = .ref p ∧ xs = [.bl k] ∧ SqL K H p (bs.map V.bl) ∧ Q (.int (bs.count k : Nat)) H
theorem mt_bcount : MtR X "list.count" (rCntB X.K) := by
  intro pins s σ H x xs v us Q I rx rxs h
  obtain ⟨p, bs, k, rfl, rfl, hs, q⟩ := h
  cases rx
  obtain ⟨u, rfl, ru⟩ := rxs.one
  cases ru
  obtain ⟨its, rv, ⟨⟨cls, dd, data, sl⟩, n, ho, hc, hdn, hd⟩, hlen⟩ := I.list hs
  simp only at hc hd
  subst hc hd
  have hi := vals_bl rv
  subst hi
  refine call_meets PySem.F.slot_list_count ⟨_, ho, rfl⟩ PySem.F.entry_list_count (PySem.F.args_list_count_2 _ _)
    (SeqAt.list_countAt p (bs.map Value.bool).toArray n dd sl (.bool k) (eqb k)) ⟨ho, fun y hy => ?_, ?_⟩
  · obtain ⟨b, _, rfl⟩ := List.mem_map.mp (List.mem_toArray.mp hy)
    exact SeqAt.EqAt.bool_bool b k
  · refine ⟨.int (bs.count k : Nat), H, I.tok _, ⟨s.toks, ?_⟩, q⟩
    show Value.int ((((bs.map Value.bool).toArray.toList.countP (eqb k) : Nat) : Int)) s.toks = Value.int ((bs.count k : Nat) : Int) s.toks
    rw [show (bs.map Value.bool).toArray.toList = bs.map Value.bool from rfl, countb]
end
end L2

set_option Elab.async false
set_option linter.all false
set_option maxRecDepth 100000
set_option maxHeartbeats 4000000
/-! Own exceptions that keep a copy of any data. -/
namespace L2
open PySem PySem.Spec PyProof.Rows PySem.KX
/-- lists, tuples stay -/
def KeptQ (H H' : Hp) : Prop := ∀ b, (∀ xs, H b = some (.lst xs) → H' b = some (.lst xs)) ∧ (∀ xs, H b = some (.tup xs) → H' b = some (.tup xs)) ∧ (∀ o u, H b = some (.frz o u) → H' b = some (.frz o u)) ∧ (H b = some (.dK []) → H' b = some (.dK []))
theorem keptQ_ext {H H' : Hp} {b : Addr} {g : Heap → Prop} (e : H b = some (.ext g)) : (∀ xs, H b = some (.lst xs) → H' b = some (.lst xs)) ∧ (∀ xs, H b = some (.tup xs) → H' b = some (.tup xs)) ∧ (∀ o u, H b = some (.frz o u) → H' b = some (.frz o u)) ∧ (H b = some (.dK []) → H' b = some (.dK [])) := by
  rw [e]
  exact ⟨(fun _ z => nomatch z), (fun _ z => nomatch z), (fun _ _ z => nomatch z), (fun z => nomatch z)⟩
mutual
theorem Dq.keep {K : PySem.W.Frag} {H H' : Hp} (e : KeptQ H H') : ∀ (d : PyData) (v : V), Dq K H v d → Dq K H' v d
  | .none, _, h => by cases h; exact .non
  | .bool b, _, h => by cases h; exact .bl b
  | .int i, _, h => by cases h; exact .int i
  | .str x, _, h => by cases h; exact .str x
  | .list ds, _, h => by
    cases h with
    | lst hs ha =>
      refine .lst ?_ (DqAll.keep e ds _ ha)
      rcases hs with (hs | ⟨o, hs⟩) | hs
      · exact .inl (.inl ((e _).1 _ hs))
      · exact .inl (.inr ⟨o, (e _).2.2.1 _ _ hs⟩)
      · exact .inr hs
  | .tuple ds, _, h => by
    cases h with
    | tup hs ha =>
      refine .tup ?_ (DqAll.keep e ds _ ha)
      rcases hs with (hs | ⟨o, hs⟩) | hs
      · exact .inl (.inl ((e _).2.1 _ hs))
      · exact .inl (.inr ⟨o, (e _).2.2.1 _ _ hs⟩)
      · exact .inr hs
  | .dict _, _, h => by
    cases h with
    | emp h => exact .emp ((e _).2.2.2 h)
theorem DqAll.keep {K : PySem.W.Frag} {H H' : Hp} (e : KeptQ H H') : ∀ (ds : List PyData) (vs : List V), DqAll K H vs ds → DqAll K H' vs ds
  | [], _, h => by cases h; exact .nil
  | d :: ds, _, h => by
    cases h with
    | cons h1 h2 => exact .cons (Dq.keep e d _ h1) (DqAll.keep e ds _ h2)
end
/-- C.__init__(self, v): the one field is a copy of v -/
def spIniQ (K : PySem.W.Frag) (C : Addr) (f : Str) : Sp := fun vs H Q _ => ∃ (a : Addr) (v : V) (d : PyData), vs = [.ref a, v] ∧ H a = some (exo a C none) ∧ Dq K (hide [a] H) v d ∧ d.depth ≤ 10 ∧ smQ d = true ∧
  ∀ (H' : Hp) (dx : Addr) (v' : V), (∀ b o, b ≠ a → H b = some o → H' b = some o) → H dx = none → H' a = some (exo a C (some dx)) → H' dx = some (exd dx [(f, v')]) → Dq K H' v' d → Q .non H'
/-- what a caller knows of an own exception class that keeps a copy of its one argument -/
structure ErrQ (P : Program) (w : World) (K : PySem.W.Frag) (mg : Str → Option Value) (base : Heap) (x : Str) (C : Addr) (f : Str) (Bi newId initId : String) (bm : List Value) : Prop where
  B : XB Bi newId initId bm
  T : XCls K C newId bm
  xi : XI K C
  xc : XfC K C
  hno : PySem.W.findIn K (.ref C) f = some none
  g : mg x = some (.ref C)
  ini : ∃ fI fd, PySem.W.findIn K (.ref C) "__init__" = some (some (.ref fI)) ∧ PySem.W.typeIn K (.ref fI) = some (.type "function") ∧ FnOk P w K mg base CX0 12 fI fd ["self", f] (spIniQ K C f) ∧ Binds K fd ["self", f] []
/-- C(e) as a value -/
def tErrVQ (K : PySem.W.Frag) (C : Addr) (f : Str) (te : TE) : TE := fun σ H Q => te σ H fun v H1 => ∃ d, Dq K H1 v d ∧ d.depth ≤ 10 ∧ smQ d = true ∧
  ∀ (a dx : Addr) (v' : V) (H' : Hp), Same H1 H' → H1 a = none → H' a = some (exo a C (some dx)) → H' dx = some (exd dx [(f, v')]) → Dq K H' v' d → Q (.ref a) H'
/-- raise C(e) -/
def tErrXQ (K : PySem.W.Frag) (C : Addr) (f : Str) (te : TE) : St → Hp → XK → Prop := fun σ H Q => te σ H fun v H1 => ∃ d, Dq K H1 v d ∧ d.depth ≤ 10 ∧ smQ d = true ∧
  ∀ (dx : Addr) (v' : V) (H' : Hp), Same H1 H' → H1 dx = none → H' dx = some (.xd [(f, v')]) → Dq K H' v' d → Q (.ref C) (some dx) H'
section
variable {X : Cx} {e : Expr} {te : TE} {f : Str} {p pos : Pos} {Bi newId initId : String} {bm : List Value} {x : Str} {C : Addr} {j : Nat}
theorem PMk.imp2 {t t' : St → Hp → XK → Prop} (h : PMk X e t) (k : ∀ σ H Q, t' σ H Q → t σ H Q) : PMk X e t' := fun pins s σ H Q I q => h pins s σ H Q I (k σ H Q q)
theorem ini_hQ {H1 : Hp} {K : PySem.W.Frag} {a : Addr} {v : V} {d : PyData} {o : HO} (n : H1 a = none) (h : Dq K H1 v d) : Dq K (hide [a] (upd H1 a o)) v d := by
  rw [hide_upd, hide_new n, hide_nil]
  exact h
theorem ini_sameQ {H1 H' : Hp} {a : Addr} {o : HO} (n : H1 a = none) (k : ∀ b o', b ≠ a → upd H1 a o b = some o' → H' b = some o') : Same H1 H' := fun b o' q => by
  have hb : b ≠ a := ne_of_none q n
  exact k b o' hb (by rw [upd_ne hb]; exact q)
theorem pe_errQ (E : ErrQ X.prog X.w X.K X.mg X.base x C f Bi newId initId bm) (hr : RoomG j X.A) (he : PE X e te) (hj : 13 ≤ j := by decide) (hg : Gl X x := by rfl)
    (hdb : (x == ("__debug__" : Str)) = false := by decide) (hs : starEach [e] X.env = (false, eval e X.env) :: starEach [] X.env := by rfl) (hpl : (backTo pos (starEach [] X.env)).any (·.1) = false := by rfl) :
    PE X (.Call (.Name x p) [e] [] pos) (tErrVQ X.K C f te) := by
  obtain ⟨fI, fd, iC, tI, F1, hb⟩ := E.ini
  refine (pe_oexX E.B E.T iC tI F1 (hr.r.mono hj) hb pass0 E.g (pa_cons he.up pa_nil hs) hg hdb hs hpl).imp fun σ H Q h => ?_
  refine ⟨_, h, fun v H1 ⟨d, hd, h1, h2, k⟩ => ⟨by show 1 ≤ 1000; omega, fun a na => ?_⟩⟩
  refine ⟨a, v, d, rfl, upd_same, ini_hQ na hd, h1, h2, fun H' dx v' kp _ ea ed hv => ⟨rfl, ?_⟩⟩
  exact k a dx v' H' (ini_sameQ na kp) na ea ed hv
theorem pmk_errQ (E : ErrQ X.prog X.w X.K X.mg X.base x C f Bi newId initId bm) (hr : RoomG j X.A) (he : PE X e te) (hj : 13 ≤ j := by decide) (hg : Gl X x := by rfl)
    (hdb : (x == ("__debug__" : Str)) = false := by decide) (hs : starEach [e] X.env = (false, eval e X.env) :: starEach [] X.env := by rfl) (hpl : (backTo pos (starEach [] X.env)).any (·.1) = false := by rfl) :
    PMk X (.Call (.Name x p) [e] [] pos) (tErrXQ X.K C f te) := by
  obtain ⟨fI, fd, iC, tI, F1, hb⟩ := E.ini
  refine PMk.imp2 (pmk_oexX E.B E.T iC tI F1 (hr.r.mono hj) hb pass0 E.g (pa_cons he.up pa_nil hs) hg hdb hs hpl) fun σ H Q h => ?_
  refine ⟨_, h, fun v H1 ⟨d, hd, h1, h2, k⟩ => ⟨by show 1 ≤ 1000; omega, fun a na => ?_⟩⟩
  refine ⟨a, v, d, rfl, upd_same, ini_hQ na hd, h1, h2, fun H' dx v' kp nx ea ed hv => ⟨rfl, dx, [(f, v')], ea, ed, ?_, ?_⟩⟩
  · by_cases hd : dx = a
    · rw [hd, upd_same] at nx; cases nx
    · rw [upd_ne hd] at nx; exact nx
  · have ndx : dx ≠ a := fun hd => by rw [hd, upd_same] at nx; cases nx
    have n1 : H1 dx = none := by rw [upd_ne ndx] at nx; exact nx
    have s1 := ini_sameQ na kp
    refine k dx v' _ (fun b o q => ?_) n1 upd_same (Dq.keep (fun b => ?_) _ _ hv)
    · have hb1 : b ≠ dx := ne_of_none q n1
      have hb2 : b ≠ a := ne_of_none q na
      rw [upd_ne hb1]
      unfold del
      rw [if_neg hb2]
      exact s1 b o q
    · by_cases hb1 : b = dx
      · subst hb1
        exact keptQ_ext ed
      · by_cases hb2 : b = a
        · subst hb2
          exact keptQ_ext ea
        · rw [upd_ne hb1]
          unfold del
          rw [if_neg hb2]
          exact ⟨fun _ z => z, fun _ z => z, fun _ _ z => z, fun z => z⟩
end
end L2

set_option Elab.async false
set_option linter.all false
set_option maxRecDepth 100000
set_option maxHeartbeats 4000000
/-! set(t), sorted(set) of ints. -/
namespace L2
open PySem PySem.Spec PyProof.Rows PySem.KX
section
variable {X : Cx}
/-- set(t), t a tuple of ints -/
def rSetTI (K : PySem.W.Frag) (w : World) : List V → Hp → VK → Prop := fun xs H Q => ∃ (t : Addr) (ns : List Int), xs = [.ref t] ∧ SqT K H t (ns.map V.int) ∧ ns.length ≤ 60 ∧ ∀ (p : Addr) (c : Nat) (H' : Hp), Same H H' → H p = none → H' p = some (SetO w p (fun j => decide (j ∈ ns)) c) → c ≤ ns.length → Q (.ref p) H'
theorem call_setTI (hc : X.calm = true) : CallR X (.type "set") (rSetTI X.K X.w) := by
  intro pins s σ H xs us Q I r h
  obtain ⟨t, ns, rfl, ht, hn, q⟩ := h
  rw [Vals.ref1 r]
  obtain ⟨its, rv, hl, _⟩ := I.tuple ht
  have hi := ints_of_vals rv
  refine call_set_tupI ns (I.ok.hd hc) hl (by simpa using hi) (by have : scanBound = scanBound := rfl; show ns.length + 1 < scanBound; first | (unfold scanBound; omega) | omega) fun h' tk c R hcn k => ?_
  have hf : H s.heap.objs.size = none := I.hok.fresh (Nat.le_refl _)
  exact ⟨.ref s.heap.objs.size, upd H s.heap.objs.size (SetO X.w s.heap.objs.size (fun j => decide (j ∈ ns)) c), I.laid (t' := tk) k (Nat.le_refl _) (setO_new R), rfl, q _ c _ ((Same.refl _).new hf) hf upd_same hcn⟩
/-- sorted(S), S a set of ints -/
def rSortTI (w : World) : List V → Hp → VK → Prop := fun xs H Q => ∃ (a : Addr) (S : Int → Bool) (n : Nat), xs = [.ref a] ∧ H a = some (SetO w a S n) ∧ n < 64 ∧ ∀ (ns : List Int) (p : Addr) (H' : Hp), ns.Pairwise (· < ·) → (∀ k : Int, k ∈ ns ↔ S k = true) → ns.length = n → Same H H' → H p = none → H' p = some (.lst (ns.map V.int)) → Q (.ref p) H'
theorem call_sortTI (hc : X.calm = true) : CallR X (.builtin "sorted") (rSortTI X.w) := (cr_sortedSet hc).imp fun xs H Q ⟨a, S, n, e, h1, h2, k⟩ =>
  ⟨a, S, n, e, h1, h2, fun ns p q1 q2 q3 q4 => k ns p _ q1 q2 q3 ((Same.refl _).new q4) q4 upd_same⟩
end
/-- the same ints, ascending, each once -/
structure Tidy (ns ms : List Int) : Prop where
  asc : ms.Pairwise (· < ·)
  mem : ∀ k : Int, k ∈ ms ↔ k ∈ ns
theorem tidy_eq : ∀ {as bs : List Int}, as.Pairwise (· < ·) → bs.Pairwise (· < ·) → (∀ k : Int, k ∈ as ↔ k ∈ bs) → as = bs
  | [], [], _, _, _ => rfl
  | [], b :: bs, _, _, h => absurd ((h b).mpr List.mem_cons_self) (by simp)
  | a :: as, [], _, _, h => absurd ((h a).mp List.mem_cons_self) (by simp)
  | a :: as, b :: bs, h1, h2, h => by
    obtain ⟨a1, a2⟩ := List.pairwise_cons.mp h1
    obtain ⟨b1, b2⟩ := List.pairwise_cons.mp h2
    have e : a = b := by
      have m1 : a ∈ b :: bs := (h a).mp List.mem_cons_self
      have m2 : b ∈ a :: as := (h b).mpr List.mem_cons_self
      rcases List.mem_cons.mp m1 with z | z
      · exact z
      · rcases List.mem_cons.mp m2 with y | y
        · exact y.symm
        · have := b1 a z
          have := a1 b y
          omega
    subst e
    congr 1
    refine tidy_eq a2 b2 fun k => ⟨fun hk => ?_, fun hk => ?_⟩
    · rcases List.mem_cons.mp ((h k).mp (List.mem_cons_of_mem _ hk)) with z | z
      · have := a1 k hk
        omega
      · exact z
    · rcases List.mem_cons.mp ((h k).mpr (List.mem_cons_of_mem _ hk)) with z | z
      · have := b1 k hk
        omega
      · exact z
theorem Tidy.eq {ns ms ms' : List Int} (h : Tidy ns ms) (h' : Tidy ns ms') : ms = ms' := tidy_eq h.asc h'.asc fun k => (h.mem k).trans (h'.mem k).symm
end L2

set_option Elab.async false
set_option linter.all false
set_option maxRecDepth 100000
set_option maxHeartbeats 4000000
/-! Defs with *rest, no repr under way. -/
namespace L2
open PySem PySem.Spec PyProof.Rows
def FnRG (P : Program) (w : World) (K : PySem.W.Frag) (mg : Str → Option Value) (base : Heap) (CX : CXT) (k : Nat) (f : Addr) (sp : Sp) : Prop :=
  ∀ (A : Around) (outer : List Env) (s : Shared) (H : Hp) (us : List Value) (vs : List V) (Q : VK) (E : XK), RoomG k A → Env0 P w K mg base A outer s H → Vals vs us → sp vs H Q E →
    codeAny (model P w) A (.call (.ref f) ⟨us, []⟩) (CR CX outer P w H s Q E) s
section
variable {X : Cx} {pins : List (Addr × Obj)} {σ : St} {H : Hp} {s : Shared}
theorem run_fnRG {CX : CXT} {k : Nat} {f : Addr} {sp : Sp} {E : XK} {Q : VK} {us : List Value} {vs : List V} (F : FnRG X.prog X.w X.K X.mg X.base CX k f sp) (hr : RoomG k X.A) (hx : Passes CX X E) (I : Inv X pins σ H s) (r : Vals vs us) (h : sp vs H Q E) :
    codeAny (model X.prog X.w) X.A (.call (.ref f) ⟨us, []⟩) (fun r s' => match r with | .ok (.ret v) => EP X pins σ Q v s' | .ok _ => False | .error e => X.xe e s') s := by
  refine codeAny_mono (F X.A X.stack s H us vs Q E hr I.env0 r h) fun r s' hq => ?_
  cases r with
  | error e => exact hx pins σ H s e s' I hq
  | ok fl =>
    cases fl with
    | ret u => exact I.after hq
    | next => exact False.elim hq
    | brk => exact False.elim hq
    | cont => exact False.elim hq

end
end L2
namespace StX
open PySem PySem.Spec PyProof.Rows L2
section
variable {CX : CXT} {P : Program} {w : World} {K : PySem.W.Frag} {mg : Str → Option Value} {base : Heap} {k : Nat} {f : Addr} {name qual : Str} {params : Arguments} {body : List Stmt} {scope : Scope} {dV kV doc pm cdv ct oc : Value} {an od : Option Addr}
  {osl : Array (Option Value)} {N ps : List Str} {sp : Sp}
theorem run_bndG {A : Around} {outer : List Env} {s : Shared} {H : Hp} {args : Args} {Q : VK} {E : XK} {G : List V → Hp → Prop} (lk : K.lookup f = some ⟨oc, od, .func (PySem.W.fnOf name qual params body scope dV kV doc pm an cdv ct), osl⟩) (hcd : PySem.W.codeIn K cdv qual = true)
    (S : FnScope N ps scope) (hr : RoomG (k + 1) A) (e0 : Env0 P w K mg base A outer s H) (hb : Bnd CX P w K mg base (PySem.W.fnOf name qual params body scope dV kV doc pm an cdv ct) args ps A outer s H E G)
    (hbody : ∀ (s2 : Shared) (H2 : Hp) (vs : List V), G vs H2 → RoomG k (A.deeper (envOfC qual scope s2.heap.objs.size f cdv)) →
      ∃ t, PSs (cxOf CX P w K mg base N qual scope f cdv A outer s2 H2 E) body t ∧ t { nx := fun _ H' => Q .non H', rt := Q } (start N vs) H2) : codeAny (model P w) A (.call (.ref f) args) (CR CX outer P w H s Q E) s := by
  have KX : K.In s.heap := e0.mod.kin.keeps fun b o e => (e0.bs b o e).1
  refine codeAny_call_function hr.r.depth (KX _ _ lk) rfl S.co S.gen rfl (PySem.W.codeRec_of KX hcd) ?_
  refine hb _ _ _ fun s2 H2 vs us e2 un ho hx r hl g => ?_
  have lim : s2.heap.NoLimit := e0.mod.nolimit.keeps fun b o e => (e2.bs b o e).1
  have hkind : ∀ y ∈ ps.zip us, scope.names.lookup y.1 = some .local ∨ (scope.names.lookup y.1 = some .cell ∧ ((cellsFrom (s2.heap.objs.size + 1) scope.names []).lookup y.1).isSome = true) := fun y hy => by
    rcases S.par y.1 (List.of_mem_zip hy).1 with q | q
    · exact .inl q
    · exact .inr ⟨q, PySem.W.cellsFrom_some _ _ _ (.inl q)⟩
  refine wpAny_newFunctionEnv_cells (s := s2) S.kind hkind fun env he s1 x => ?_
  subst he
  refine ⟨lim.keeps x.toInCall.keep, codeAny_func ?_⟩
  obtain ⟨t, ht, hq⟩ := hbody s2 H2 vs g (hr.deeper _)
  have I : Inv (cxOf CX P w K mg base N qual scope f cdv A outer s2 H2 E) [] (start N vs) H2 s1 := inv_start S hr.r.hd e2 hl r x
  refine wpAny_mono (ht.run [] s1 _ _ _ I hq) (fun fl s' hs => ?_) fun e s' hs => ?_
  · have fin : ∀ {σ' : L2.St} {H' : Hp} {v' : V} {u' : Value}, Inv (cxOf CX P w K mg base N qual scope f cdv A outer s2 H2 E) [] σ' H' s' → RelV v' u' → Q v' H' → CE outer P w H s Q u' s' :=
      fun {σ' H' v' u'} J rv' q => ⟨v', H', J.os.trans ho, J.bare, un.trans J.base, J.hok, rv', q⟩
    cases fl with
    | ret u' =>
      obtain ⟨v', σ', H', J, rv', q⟩ := hs
      exact fin J rv' q
    | next =>
      obtain ⟨σ', H', J, q⟩ := hs
      exact fin (v' := V.non) (u' := Value.none) J rfl q
    | brk =>
      obtain ⟨_, _, _, q⟩ := hs
      exact False.elim q
    | cont =>
      obtain ⟨_, _, _, q⟩ := hs
      exact False.elim q
  · exact wpAny_mono hs (fun _ s'' z => hx e s'' z) fun e' s'' z => hx e' s'' z

theorem fn_starG {pv : Str} (lk : K.lookup f = some ⟨oc, od, .func (PySem.W.fnOf name qual params body scope dV kV doc pm an cdv ct), osl⟩) (hcd : PySem.W.codeIn K cdv qual = true) (S : FnScope N (ps ++ [pv]) scope) (hCX : CXUp CX)
    (hb : ∀ us rest : List Value, us.length = ps.length → bindArgs (PySem.W.fnOf name qual params body scope dV kV doc pm an cdv ct) ⟨us ++ rest, []⟩ = (newTuple rest >>= fun t => pure (ps.zip us ++ [(pv, t)])))
    (hbody : ∀ (A : Around) (outer : List Env) (s : Shared) (H : Hp) (vs : List V) (Q : VK) (E : XK), RoomG k (A.deeper (envOfC qual scope s.heap.objs.size f cdv)) → sp vs H Q E →
      ∃ t, PSs (cxOf CX P w K mg base N qual scope f cdv A outer s H E) body t ∧ t { nx := fun _ H' => Q .non H', rt := Q } (start N vs) H) :
    FnRG P w K mg base CX (k + 1) f (fun vs H Q E => ∃ ws rest, vs = ws ++ rest ∧ ws.length = ps.length ∧ rest.length ≤ sizeLine ∧ ∀ p, H p = Option.none → sp (ws ++ [V.ref p]) (upd H p (.tup rest)) Q E) := by
  intro A outer s H us vs Q E hr e0 r hsp
  obtain ⟨ws, rest, ev, hl, hz, hq⟩ := hsp
  subst ev
  obtain ⟨u1, u2, eu, r1, r2⟩ := vals_split r
  subst eu
  have hn : H s.heap.objs.size = Option.none := e0.hok.fresh (Nat.le_refl _)
  have hl1 : u1.length = ps.length := by rw [← r1.length]; exact hl
  have hl2 : u2.length ≤ sizeLine := by rw [← r2.length]; exact hz
  refine run_bndG lk hcd S hr e0 (G := fun xs H2 => ∃ p, H p = Option.none ∧ xs = ws ++ [V.ref p] ∧ H2 = upd H p (.tup rest)) (fun A' Ex Q' h => ?_) fun s2 H2 xs ⟨p, hp, ex, eH⟩ hr' => ?_
  · rw [hb u1 u2 hl1]
    refine wpAny_bind (wpAny_newTuple (wpAny_pure ?_) hl2)
    have new : ObjOk P w (upd H s.heap.objs.size (.tup rest)) (s.heap.push ({ cls := .type "tuple", data := .seq u2.toArray } : Obj)) s.heap.objs.size (.tup rest) := ⟨hz, u2, r2, ⟨_, Heap.get?_push_size _ rfl, rfl, _, rfl⟩⟩
    have un := un_laid (fs := frs outer) (s := s) (o := ({ cls := .type "tuple", data := .seq u2.toArray } : Obj)) (u := .tup rest) hn
    have z := h _ _ (ws ++ [V.ref s.heap.objs.size]) (u1 ++ [Value.ref s.heap.objs.size]) (env0_laid e0 new) un rfl (fun e s' => hCX outer s H _ _ E e s' un (fun b o q => Heap.get?_push_of_some _ q) rfl) (r1.append (.cons rfl .nil))
      (by rw [List.length_append, List.length_append, hl] <;> rfl) ⟨_, hn, rfl, rfl⟩
    rw [List.zip_append hl1.symm] at z
    exact z
  · subst ex eH
    exact hbody A outer s2 _ _ Q E hr' (hq p hp)

end
section
variable {X : Cx} {CX : CXT} {k : Nat} {f : Addr} {sp : Sp} {E : XK} {x : Str} {p pos : Pos} {e : Expr} {es : List Expr} {t : TA}
theorem pe_callRG (F : FnRG X.prog X.w X.K X.mg X.base CX k f sp) (hr : RoomG k X.A) (hk : PySem.W.keepIn X.K (.ref f) = true) (hg : Gl X x) (hm : X.mg x = some (.ref f)) (hx : Passes CX X E) (ha : PA X (e :: es) t) (hd : (x == ("__debug__" : Str)) = false := by decide)
    (he : starEach (e :: es) X.env = (false, eval e X.env) :: starEach es X.env := by rfl) (hpl : (backTo pos (starEach es X.env)).any (·.1) = false := by rfl) :
    PE X (.Call (.Name x p) (e :: es) [] pos) (fun σ H Q => t σ H fun vs H1 => sp vs H1 Q E) := by
  refine ⟨fun pins s σ H Q I h => ?_⟩
  refine wpAny_Call_Name_kw (ld_glob I hg hm ?_ hd)
  refine PySem.W.callWith_K (h₀ := X.base) I.ok.mod.kin hk (thn (ha.run pos pins s σ H _ I h) fun us s1 ⟨vs, H1, I1, r, q⟩ => ⟨I1.kIn, ?_⟩) he hpl
  exact wpAny_call (run_fnRG F hr hx I1 r q)
end
end StX

set_option Elab.async false
set_option linter.all false
set_option maxRecDepth 100000
set_option maxHeartbeats 4000000
/-! sorted(xs), a list of data of one shape. -/
namespace L2
open PySem PySem.Spec PyProof.Rows PySem.KX
open PySem.W (AllAlike Sortable dataLe EachIs)
section
variable {X : Cx}
/-- the items beside their data, in order -/
abbrev sortQ (ys : List V) (ds : List PyData) : List (V × PyData) := (ys.zip ds).mergeSort (dataLe false Prod.snd)
def rSortQ (K : PySem.W.Frag) : List V → Hp → VK → Prop := fun xs H Q => ∃ (a : Addr) (ys : List V) (ds : List PyData), xs = [.ref a] ∧ SqL K H a ys ∧ DqAll K H ys ds ∧ AllAlike ds ∧ Sortable ds ∧ ds.length ≤ 100000 ∧ (∀ d ∈ ds, d.depth ≤ 50) ∧
  ∀ (p : Addr) (H' : Hp), Same H H' → H p = none → H' p = some (.lst ((sortQ ys ds).map Prod.fst)) → Q (.ref p) H'
theorem zip_snd : ∀ {ys : List V} {ds : List PyData}, ys.length = ds.length → (ys.zip ds).map Prod.snd = ds
  | [], [], _ => rfl
  | [], d :: ds, h => nomatch h
  | y :: ys, [], h => nomatch h
  | y :: ys, d :: ds, h => by
    show d :: (ys.zip ds).map Prod.snd = d :: ds
    rw [zip_snd (by simpa using h)]
theorem each_rel : ∀ {ys : List V} {us : List Value} {ds : List PyData}, Vals ys us → ys.length = ds.length → EachIs (fun (u : Value) (p : V × PyData) => RelV p.1 u) us (ys.zip ds)
  | [], _, [], h, _ => by cases h; exact .nil
  | [], _, d :: ds, _, h => nomatch h
  | y :: ys, _, [], _, h => nomatch h
  | y :: ys, _, d :: ds, h, hl => by
    cases h with
    | cons h1 t => exact .cons h1 (each_rel t (by simpa using hl))
theorem each_reads {pins : List (Addr × Obj)} {σ : St} {H : Hp} {s : Shared} (I : Inv X pins σ H s) : ∀ {ys : List V} {us : List Value} {ds : List PyData}, Vals ys us → DqAll X.K H ys ds → EachIs (fun (u : Value) (p : V × PyData) => ∃ as, Reads s.heap u p.2 as) us (ys.zip ds)
  | [], _, _, h, hd => by cases h; cases hd; exact .nil
  | y :: ys, _, _, h, hd => by
    cases h with
    | cons h1 t =>
      cases hd with
      | cons d1 dt => exact .cons (Dq.reads I _ _ _ d1 h1) (each_reads I t dt)
theorem each_vals : ∀ {out : List Value} {bs : List (V × PyData)}, EachIs (fun (u : Value) (p : V × PyData) => RelV p.1 u) out bs → Vals (bs.map Prod.fst) out
  | _, _, .nil => .nil
  | _, _, .cons h t => .cons h (each_vals t)
theorem call_sortedQ (hu : X.A.units + 64 < cLine) : CallR X (.builtin "sorted") (rSortQ X.K) := by
  intro pins s σ H xs us Q I r h
  obtain ⟨a, ys, ds, rfl, hs, hd, hal, hk, hL, hdep, q⟩ := h
  obtain ⟨its, rv, hl, _⟩ := I.list hs
  rw [Vals.ref1 r]
  have hlen := hd.length
  have hz := zip_snd hlen
  refine PySem.W.sorted_data (enc := Prod.snd) hl.isList (each_rel rv hlen) (each_reads I rv hd) (by rw [hz]; exact hal) (by rw [hz]; exact hk) (by rw [List.length_zip, sizeLine_eq]; omega) (fun b hb => ?_) fun out h1 h2 => ?_
  · have hm : b.2 ∈ ds := by
      rw [← hz]
      exact List.mem_map.mpr ⟨b, hb, rfl⟩
    have := hdep _ hm
    omega
  · obtain ⟨ep, he'⟩ := sortedAll_at s.heap its out.toArray
    have hv := each_vals h2
    have hlen2 : ((sortQ ys ds).map Prod.fst).length ≤ sizeLine := by
      rw [hv.length, h1, List.length_zip, sizeLine_eq]
      omega
    have hn : H (s.heap.objs.size + 1) = none := I.hok.fresh (Nat.le_succ _)
    exact ⟨.ref _, upd H (s.heap.objs.size + 1) (.lst ((sortQ ys ds).map Prod.fst)), I.laid (t' := s.toks) (fun _ _ => sortedAll_old) (Nat.le_succ _) ⟨hlen2, out, ep, hv, he'⟩, rfl, q _ _ ((Same.refl _).new hn) hn upd_same⟩
end
end L2

set_option Elab.async false
set_option linter.all false
set_option maxRecDepth 100000
set_option maxHeartbeats 4000000
/-! Comprehensions with a condition, over any walk. -/
namespace L2
open PySem PySem.Spec PyProof.Rows PySem.KX
def tUpT (t : TT) : TT := fun σ H Q => ∃ Q0 : Bool → Hp → Prop, t σ H Q0 ∧ ∀ b H', Q0 b H' → Q b H'
theorem PT.up {X : Cx} {e : Expr} {t : TT} (h : PT X e t) : PT X e (tUpT t) :=
  ⟨fun pins s σ H Q I ⟨Q0, h0, k⟩ => wpAny_mono (h.run pins s σ H Q0 I h0) (fun b s1 ⟨H1, I1, q1⟩ => ⟨H1, I1, k b H1 q1⟩) fun _ _ z => z⟩
/-- the places below n that pass -/
abbrev pas (p : Nat → Bool) (n : Nat) : List Nat := (List.range n).filter p
theorem pas_yes {p : Nat → Bool} {n : Nat} (h : p n = true) : pas p (n + 1) = pas p n ++ [n] := by
  unfold pas
  rw [List.range_succ, List.filter_append, List.filter_cons_of_pos h, List.filter_nil]
theorem pas_no {p : Nat → Bool} {n : Nat} (h : p n = false) : pas p (n + 1) = pas p n := by
  unfold pas
  rw [List.range_succ, List.filter_append, List.filter_cons_of_neg (by rw [h]; decide), List.filter_nil, List.append_nil]
theorem pas_len {p : Nat → Bool} {n : Nat} : (pas p n).length ≤ n := by
  have := List.length_filter_le p (List.range n)
  rw [List.length_range] at this
  exact this
def AccF (R : Nat → V → Hp → Prop) (p : Nat → Bool) (D : Addr) (H1 : Hp) (n : Nat) (H' : Hp) : Prop := ∃ acc, H' D = some (.lst acc) ∧ Same H1 H' ∧ acc.length = (pas p n).length ∧ ∀ (i : Nat) (v : V), acc[i]? = some v → ∃ j, (pas p n)[i]? = some j ∧ R j v (hide [D] H')
theorem AccF.start {R : Nat → V → Hp → Prop} {p : Nat → Bool} {D : Addr} {H1 : Hp} (hD : H1 D = none) : AccF R p D H1 0 (upd H1 D (.lst [])) := ⟨[], upd_same, (Same.refl H1).new hD, rfl, fun j v h => nomatch h⟩
theorem AccF.skip {R : Nat → V → Hp → Prop} {p : Nat → Bool} {D : Addr} {H1 H' H4 : Hp} {n : Nat} (st : ∀ j v H H', Same H H' → R j v H → R j v H') (q : AccF R p D H1 n H') (s : Same H' H4) (hp : p n = false) : AccF R p D H1 (n + 1) H4 := by
  obtain ⟨acc, h1, h2, h3, h4⟩ := q
  refine ⟨acc, s _ _ h1, h2.trans s, by rw [pas_no hp]; exact h3, fun i v h => ?_⟩
  obtain ⟨j, e, r⟩ := h4 i v h
  exact ⟨j, by rw [pas_no hp]; exact e, st _ _ _ _ (hide_same s) r⟩
theorem AccF.snoc {R : Nat → V → Hp → Prop} {p : Nat → Bool} {D : Addr} {H1 H' H4 : Hp} {n : Nat} {y : V} (st : ∀ j v H H', Same H H' → R j v H → R j v H') (hD : H1 D = none) (hn : n < 1000000) (q : AccF R p D H1 n H') (s : Same H' H4) (hp : p n = true) (r : R n y (hide [D] H4)) :
    ∃ acc, H4 D = some (.lst acc) ∧ acc.length < sizeLine ∧ AccF R p D H1 (n + 1) (upd H4 D (.lst (acc ++ [y]))) := by
  obtain ⟨acc, h1, h2, h3, h4⟩ := q
  have hl := pas_len (p := p) (n := n)
  refine ⟨acc, s _ _ h1, by rw [sizeLine_eq]; omega, acc ++ [y], upd_same, fun b o e => ?_, by rw [pas_yes hp]; simp [h3], fun i v h => ?_⟩
  · rw [upd_ne (ne_of_none e hD)]
    exact s _ _ (h2 _ _ e)
  · rw [hide_upd, pas_yes hp]
    by_cases hi : i < acc.length
    · rw [List.getElem?_append_left hi] at h
      obtain ⟨j, e, r2⟩ := h4 i v h
      exact ⟨j, by rw [List.getElem?_append_left (by omega)]; exact e, st _ _ _ _ (hide_same s) r2⟩
    · rw [List.getElem?_append_right (by omega)] at h
      have e : i = acc.length := by
        have := (List.getElem?_eq_some_iff.mp h).1
        simp at this
        omega
      subst e
      have e2 : v = y := by
        rw [Nat.sub_self] at h
        simpa using h.symm
      subst e2
      exact ⟨n, by rw [List.getElem?_append_right (by omega), h3, Nat.sub_self]; rfl, r⟩
theorem lc_itF {J : It} {n : Nat} {G : Hp → Prop} {Y : Nat → Hp → V → Hp → Prop} (w : Walk J n G Y) {g : TG} {tt : TT} {t : TE} {vs : List Nat} {σ : St} {H1 : Hp} {D : Addr} {Qd : Hp → Prop} (p : Nat → Bool) (R : Nat → V → Hp → Prop) (st : ∀ j v H H', Same H H' → R j v H → R j v H') (hD : H1 D = none) (hx : n ≤ 1000000)
    (hG : ∀ H', Same H1 H' → G H')
    (hs : ∀ j x H' H2, j < n → Same H1 H' → H' D ≠ none → Y j H' x H2 → g x (wipe σ vs) H2 fun σ3 H3 => wipe σ3 vs = wipe σ vs ∧ tt σ3 H3 fun b H4 => b = p j ∧ Same H' H4 ∧ (b = true → t σ3 H4 fun y H5 => Same H' H5 ∧ R j y (hide [D] H5)))
    (hg : ∀ x σ H (q q' : St → Hp → Prop), g x σ H q → (∀ σ H, q σ H → q' σ H) → g x σ H q')
    (hd : ∀ H' acc, Same H1 H' → H' D = some (.lst acc) → acc.length = (pas p n).length → (∀ (i : Nat) (v : V), acc[i]? = some v → ∃ j, (pas p n)[i]? = some j ∧ R j v H') → Qd H') :
    ∃ W : Nat → Nat → Hp → Prop, (∃ m, W 0 m (upd H1 D (.lst []))) ∧ ∀ i m H, W i m H →
      (J.stop i H ∧ Qd H) ∨ (J.go i H ∧ ∃ Nx : Hp → Prop, (∀ H', Nx H' → ∃ m', m' < m ∧ W (i + 1) m' H') ∧ ∀ x H', J.yld i H x H' → g x (wipe σ vs) H' fun σ2 H2 => wipe σ2 vs = wipe σ vs ∧ tUpT tt σ2 H2 fun b H3 =>
        if b = true then tUp t σ2 H3 fun y H4 => ∃ acc, H4 D = some (.lst acc) ∧ acc.length < sizeLine ∧ Nx (upd H4 D (.lst (acc ++ [y]))) else Nx H3) := by
  refine lc_it w (tt := tUpT tt) (te := tUp t) (fun i H' => AccF R p D H1 i H') (AccF.start hD) (fun i H' _ ⟨_, _, s, _⟩ => hG _ s) (fun i x H' H2 hi q y => ?_) (fun H' ⟨acc, h1, h2, h3, h4⟩ => hd H' acc h2 h1 h3 fun j v h => ?_)
  · have hs2 := q
    obtain ⟨a0, e0, s, _⟩ := hs2
    have th : H' D ≠ none := by rw [e0]; exact fun z => nomatch z
    refine hg _ _ _ _ _ (hs i x H' H2 hi s th y) fun σ2 H3 ⟨w, h⟩ => ⟨w, _, h, fun b H4 ⟨eb, s4, k⟩ => ?_⟩
    cases b with
    | true =>
      rw [if_pos rfl]
      exact ⟨_, k rfl, fun y H5 ⟨s5, r⟩ => AccF.snoc st hD (by omega) q s5 eb.symm r⟩
    | false =>
      rw [if_neg (by decide)]
      exact AccF.skip st q s4 eb.symm
  · obtain ⟨j', e, r⟩ := h4 j v h
    exact ⟨j', e, st _ _ _ _ hide_sub r⟩
end L2

set_option Elab.async false
set_option linter.all false
set_option maxRecDepth 100000
set_option maxHeartbeats 4000000
/-! Words drawn one after the other: the mathematics. -/
namespace L2
open PySem
theorem nodup_le {α : Type} [DecidableEq α] : ∀ {l m : List α}, l.Nodup → (∀ x ∈ l, x ∈ m) → l.length ≤ m.length
  | [], _, _, _ => Nat.zero_le _
  | a :: l, m, h, k => by
    obtain ⟨h1, h2⟩ := List.nodup_cons.mp h
    have ha : a ∈ m := k a List.mem_cons_self
    have := nodup_le (l := l) (m := m.erase a) h2 fun x hx => by
      have hne : x ≠ a := fun z => h1 (z ▸ hx)
      exact (List.mem_erase_of_ne hne).mpr (k x (List.mem_cons_of_mem _ hx))
    rw [List.length_erase_of_mem ha] at this
    have := List.length_pos_of_mem ha
    simp only [List.length_cons]
    omega
/-- the text of these codes -/
abbrev wT (l : List Nat) : Str := ⟨l.toArray⟩
theorem wT_inj {l m : List Nat} (h : wT l = wT m) : l = m := by
  have := congrArg (fun z : Str => z.cps.toList) h
  simpa using this
theorem wT_len (l : List Nat) : (wT l).length = l.length := by
  show l.toArray.size = _
  simp
theorem wT_eta (x : Str) : x = wT x.cps.toList := by
  cases x
  simp
theorem wT_app (l m : List Nat) : wT l ++ wT m = wT (l ++ m) := by
  show (⟨l.toArray ++ m.toArray⟩ : Str) = _
  simp
abbrev lowL (c : Nat) : Bool := decide (97 ≤ c) && decide (c ≤ 122)
theorem lowL_iff {c : Nat} : lowL c = true ↔ 97 ≤ c ∧ c ≤ 122 := by simp
/-- the letter that is j places on -/
def onC (c j : Nat) : Nat := 97 + (c - 97 + j) % 26
theorem onC_low (c j : Nat) : 97 ≤ onC c j ∧ onC c j ≤ 122 := by
  unfold onC
  have := Nat.mod_lt (c - 97 + j) (show 0 < 26 by decide)
  omega
theorem onC_zero {c : Nat} (h : 97 ≤ c ∧ c ≤ 122) : onC c 0 = c := by
  unfold onC
  rw [Nat.mod_eq_of_lt (by omega)]
  omega
theorem onC_succ (c j : Nat) : onC (onC c j) 1 = onC c (j + 1) := by
  unfold onC
  have h1 : 97 + (c - 97 + j) % 26 - 97 = (c - 97 + j) % 26 := by omega
  rw [h1, Nat.mod_add_mod]
  congr 1
theorem onC_inj {c i j : Nat} (hi : i < 26) (hj : j < 26) (h : onC c i = onC c j) : i = j := by
  unfold onC at h
  omega
/-- a word that is put on while it is taken: it is free, or all before it are taken -/
def TryW (fs : List Str) (c : Nat) (r : List Nat) (t : Nat) (d : Nat) : Prop := wT (d :: r) ∉ fs ∨ (d = onC c t ∧ ∀ j, j < t → wT (onC c j :: r) ∈ fs)
theorem TryW.start {fs : List Str} {c : Nat} {r : List Nat} (h : 97 ≤ c ∧ c ≤ 122) : TryW fs c r 0 c := .inr ⟨(onC_zero h).symm, fun j hj => absurd hj (Nat.not_lt_zero _)⟩
theorem TryW.free {fs : List Str} {c : Nat} {r : List Nat} {t d : Nat} (h : TryW fs c r t d) (n : wT (d :: r) ∉ fs) : TryW fs c r (t + 1) d := .inl n
theorem TryW.on {fs : List Str} {c : Nat} {r : List Nat} {t d : Nat} (h : TryW fs c r t d) (y : wT (d :: r) ∈ fs) : TryW fs c r (t + 1) (onC d 1) := by
  rcases h with h | ⟨rfl, h⟩
  · exact absurd y h
  · refine .inr ⟨onC_succ c t, fun j hj => ?_⟩
    by_cases e : j = t
    · subst e
      exact y
    · exact h j (by omega)
theorem TryW.done {fs : List Str} {c : Nat} {r : List Nat} {t d : Nat} (h : TryW fs c r t d) (h1 : fs.length < t) (h2 : t ≤ 26) : wT (d :: r) ∉ fs := by
  rcases h with h | ⟨_, h⟩
  · exact h
  · exfalso
    have hn : ((List.range t).map fun j => wT (onC c j :: r)).Nodup := by
      refine List.Pairwise.map _ ?_ (List.nodup_iff_pairwise_ne.mp List.nodup_range |>.imp_of_mem fun {a b} ha hb hab => ?_) (S := fun a b => a ≠ b) (R := fun a b => wT (onC c a :: r) ≠ wT (onC c b :: r))
      · intro a b h
        exact h
      · intro e
        have e2 := (List.cons.inj (wT_inj e)).1
        have a1 := List.mem_range.mp ha
        have b1 := List.mem_range.mp hb
        exact hab (onC_inj (by omega) (by omega) e2)
    have := nodup_le hn fun x hx => by
      obtain ⟨j, hj, rfl⟩ := List.mem_map.mp hx
      exact h j (List.mem_range.mp hj)
    simp at this
    omega
end L2

set_option Elab.async false
set_option linter.all false
set_option maxRecDepth 100000
set_option maxHeartbeats 4000000
/-! not in a range; new lists that lie past the first places. -/
namespace L2
open PySem PySem.Spec PyProof.Rows PySem.KX
section
variable {X : Cx}
def rNotInRng : R2 := fun x y H Q => ∃ i a lo hi, x = V.int i ∧ y = V.ref a ∧ H a = some (.rng lo hi) ∧ Q (.bl (!decide (lo ≤ i ∧ i < hi))) H
theorem op_notIn_rng : OpR X (compareOp .NotIn) rNotInRng := by
  intro pins s σ H x y v u Q I rx ry h
  obtain ⟨i, a, lo, hi, rfl, rfl, ha, q⟩ := h
  obtain ⟨k, rfl⟩ := rx
  obtain rfl : u = Value.ref a := ry
  obtain ⟨t1, t2, t3, ho⟩ := I.hok a _ ha
  show wpAny _ _ (do return Value.bool (!(← contains (Value.ref a) (Value.int i k)))) _ _ s
  refine wpAny_bind (wpAny_contains_slot (T := "range") ⟨_, ho, rfl⟩ F.slot_range_contains (call_meets F.slot_range_contains ⟨_, ho, rfl⟩ F.entry_range_contains (F.args_range_contains_2 _ _) (q_contains a lo hi i t1 t2 t3 k)
    ⟨ho, wpAny_truthy_bool (wpAny_pure ⟨.bl _, H, I, rfl, ?_⟩)⟩))
  rw [place1]
  exact q
/-- range(a, b) as a value -/
def rRngS : List V → Hp → VK → Prop := fun vs H Q => ∃ i j, vs = [V.int i, V.int j] ∧ ∀ p H', Same H H' → H p = none → H' p = some (.rng i j) → Q (.ref p) H'
theorem call_rngS : CallR X (.type "range") rRngS := cr_range2.imp fun xs H Q ⟨i, j, e, k⟩ => ⟨i, j, e, fun p n => k p _ ((Same.refl _).new n) n upd_same⟩
/-- [e, ..], not at the place of sys.modules -/
def tLstN (t : TA) : TE := fun σ H Q => t σ H fun xs H1 => xs.length ≤ 1000000 ∧ ∀ p H', (p == sysModules) = false → Same H1 H' → H1 p = none → H' p = some (.lst xs) → Q (.ref p) H'
theorem pe_lstN {es : List Expr} {t : TA} {pos : Pos} (h : PA X es t) : PE X (.List es pos) (tLstN t) := by
  refine ⟨fun pins s σ H Q I hq => ?_⟩
  refine wpAny_List_spliced (thn (h.run pos pins s σ H _ I hq) fun us s1 ⟨xs, H1, I1, r, z, q⟩ => ⟨by rw [← r.length]; exact small_size z, ?_⟩)
  have hf : H1 s1.heap.objs.size = none := I1.hok.fresh (Nat.le_refl _)
  have hb := I1.big
  refine ⟨.ref s1.heap.objs.size, upd H1 s1.heap.objs.size (.lst xs), I1.laid (t' := s1.toks) (fun b u e => Heap.get?_push_of_some _ e) (Nat.le_refl _) ?_, rfl, q _ _ ?_ ((Same.refl _).new hf) hf upd_same⟩
  · exact ⟨small_size z, us, 0, r, Heap.get?_push_size _ rfl⟩
  · exact beq_eq_false_iff_ne.mpr (Nat.ne_of_gt hb)
end
end L2

set_option Elab.async false
set_option linter.all false
set_option maxRecDepth 100000
set_option maxHeartbeats 4000000
/-! set(a list of ints). -/
namespace L2
open PySem PySem.Spec PyProof.Rows
section
variable {P : Program} {w : World} {A : Around} {E : Value → Shared → Prop} {s : Shared} {a : Addr}
set_option maxRecDepth 100000 in
set_option maxHeartbeats 3200000 in
theorem call_set_lstI {l : Addr} {items : Array Value} (ns : List Int) {Q : Value → Shared → Prop} (hh : A.handled = none) (hl : s.heap.IsList l items) (hit : IntsAre items.toList ns) (hb : ns.length + 1 < scanBound)
    (h : ∀ (h' : Heap) (tk c : Nat), SetR w h' s.heap.objs.size (fun j => decide (j ∈ ns)) c → c ≤ ns.length → (∀ b o, s.heap.get? b = some o → h'.get? b = some o) → Q (.ref s.heap.objs.size) { s with heap := h', toks := tk }) :
    wpAny (model P w) A (call (.type "set") [.ref l]) Q E s := by
  have hisz : items.size = ns.length := by
    have q := IntsAre.length hit
    rw [Array.length_toList] at q
    exact q
  obtain ⟨c, tl, hmro⟩ := F.called_set.mro
  have hmade := F.called_set.made
  have hsub := F.called_set.sub
  refine wpAny_call (codeAny_of_tree ?_)
  show wpAny _ _ (callAny (.type "set") _) _ _ _
  refine wpAny_pure ⟨Code.quiet_builtin _ (by decide +kernel), codeAny_builtin F.entry_type_call ?_⟩
  rw [Around.under_plain (weight_type_call_type "set" [.ref l] []) rfl]
  have h1 := F.called_set.notType
  have h2 := F.called_set.canCreate
  have hct := F.typeCall_set_1 (.ref l)
  repeat (any_goals (first | assumption | wp_step))

  refine codeAny_mono (code_set_led1 (.ref l) (E := E) (Q₁ := fun obj s₁ => obj = .ref s.heap.objs.size ∧ s₁ = { s with heap := s.heap.push { cls := .type "set", dict := none, data := .set #[] 0 (.fresh 0 0 (!w.params.followText "set-order")) } }) ⟨rfl, rfl⟩) fun r s₁ hr => ?_
  cases r with
  | error e => exact hr
  | ok fl =>
    cases fl with
    | ret obj =>
      obtain ⟨rfl, rfl⟩ := hr
      have hS : (s.heap.push { cls := .type "set", dict := none, data := .set #[] 0 (.fresh 0 0 (!w.params.followText "set-order")) }).get? s.heap.objs.size = some { cls := .type "set", dict := none, data := .set #[] 0 (.fresh 0 0 (!w.params.followText "set-order")) } := Heap.get?_push_size _ rfl
      have hT : Shared.TypeIs { s with heap := s.heap.push { cls := .type "set", dict := none, data := .set #[] 0 (.fresh 0 0 (!w.params.followText "set-order")) } } (.ref s.heap.objs.size) "set" := ⟨_, hS, rfl⟩
      have hli := F.called_set.init.lookup
      have hbi := F.called_set.init.bind (.ref s.heap.objs.size)
      repeat (any_goals (first | assumption | wp_step))

      refine codeAny_mono (codeAny_call_builtin (R := wants (fun r s₂ => r = .none ∧ ∃ h' tk c, s₂ = { s with heap := h', toks := tk } ∧ SetR w h' s.heap.objs.size (fun j => decide (j ∈ ns)) c ∧ c ≤ ns.length ∧
          (∀ b o, s.heap.get? b = some o → h'.get? b = some o)) E) F.called_set.init.plain F.entry_set_init (check_set_init_1 hT ?_)) fun r₂ s₂ hr₂ => ?_
      · obtain ⟨ol, hol, hcl, nl, hdl⟩ := hl
        obtain ⟨ocls, odict, odata, oslots⟩ := ol
        simp only at hcl hdl
        subst hcl; subst hdl
        have hol' : (s.heap.push { cls := .type "set", dict := none, data := .set #[] 0 (.fresh 0 0 (!w.params.followText "set-order")) }).get? l = some { cls := .type "list", dict := odict, data := .seq items nl, slots := oslots } := Heap.get?_push_of_some _ hol
        have hsls := F.sub_list_set
        have hslf := F.sub_list_frozenset
        have hne : (Value.type "list" == Value.type "dict") = false := by decide
        have hl1 : (s.heap.push { cls := .type "set", dict := none, data := .set #[] 0 (.fresh 0 0 (!w.params.followText "set-order")) }).IsList l items := ⟨_, hol', rfl, nl, rfl⟩
        unfold Builtin.«set.__init__» noKeywords Builtin.Frozenset.updateFrom
        generalize hPI : pyIter = PI
        wp_walk
        subst hPI

        refine wpAny_pyIter_list hl1 ?_
        refine wpAny_bind (wpAny_runValue ?_)
        have hlS : l < s.heap.objs.size := Heap.lt_size hol
        have hh3 : A.in1.in1.in1.handled = none := by simp [hh]
        have hz1 : (s.heap.push { cls := .type "set", dict := none, data := .set #[] 0 (.fresh 0 0 (!w.params.followText "set-order")) }).objs.size = s.heap.objs.size + 1 := Heap.size_push ..
        have hneI : l ≠ (s.heap.push { cls := .type "set", dict := none, data := .set #[] 0 (.fresh 0 0 (!w.params.followText "set-order")) }).objs.size := by
          rw [Heap.size_push]; exact Nat.ne_of_lt (Nat.lt_succ_of_lt hlS)
        have hSf : s.heap.objs.size ∉ [(s.heap.push { cls := .type "set", dict := none, data := .set #[] 0 (.fresh 0 0 (!w.params.followText "set-order")) }).objs.size, l] := by
          rw [Heap.size_push]; simp only [List.mem_cons, List.mem_singleton, List.not_mem_nil, or_false, not_or]
          exact ⟨Nat.ne_of_lt (Nat.lt_succ_self _), Nat.ne_of_gt hlS⟩
        have hval : ∀ (i : Nat) (v : Value), items[i]? = some v → ∃ k t, ns[i]? = some k ∧ v = .int k t := fun i v hv => by
          have hi : i < ns.length := by rw [← hisz]; exact (Array.getElem?_eq_some_iff.mp hv).1
          obtain ⟨t, e⟩ := PyProof.Rows.IntsAre.int_at hit i v (by rw [Array.getElem?_toList]; exact hv)
          refine ⟨ns[i], t, List.getElem?_eq_getElem hi, ?_⟩
          rw [e, List.getD_eq_getElem?_getD, List.getElem?_eq_getElem hi] <;> rfl
        refine set_update_ints ((Walks.list hh3 _ l hneI items).toS) s.heap.objs.size
          hSf ns hisz hb hval (items.size - 0) 0 _ (by omega) (Nat.zero_le _)
          ⟨⟨_, Heap.get?_push_size _ rfl, rfl, rfl⟩, (hl1.push _)⟩ ?hS0 ?hR
        case hS0 =>
          have hget : ((s.heap.push { cls := .type "set", dict := none, data := .set #[] 0 (.fresh 0 0 (!w.params.followText "set-order")) }).push { cls := .type "list_iterator", data := .fields #[.ref l, .int 0 0] }).get? s.heap.objs.size
              = some { cls := .type "set", dict := none, data := .set #[] 0 (.fresh 0 0 (!w.params.followText "set-order")) } := Heap.get?_push_of_some _ hS
          exact ⟨0, Nat.le_refl 0, setR_new_at hget⟩
        case hR =>
          intro s' c' hm hc' hS'
          obtain ⟨h', g2, d', tk', os'⟩ := s'
          have eg : g2 = s.gens := hm.gens
          have ed : d' = s.drawn := hm.drawn
          have eo : os' = s.os := hm.os
          subst eg; subst ed; subst eo
          show wpAny _ _ _ _ _ _
          refine wpAny_pure ?_
          show wpAny _ _ (ret Value.none) _ _ _
          rw [hisz] at hc'
          refine wpAny_pure ⟨rfl, h', tk', c', rfl, hS', hc', fun b o e => ?_⟩
          have hb0 : b < s.heap.objs.size := Heap.lt_size e
          have hb1 : b ≠ s.heap.objs.size := Nat.ne_of_lt hb0
          have hb2 : b ≠ (s.heap.push { cls := .type "set", dict := none, data := .set #[] 0 (.fresh 0 0 (!w.params.followText "set-order")) }).objs.size := by
            rw [Heap.size_push]; exact Nat.ne_of_lt (Nat.lt_succ_of_lt hb0)
          exact hm.heap b o (by simp only [List.mem_cons, List.mem_singleton, List.not_mem_nil, or_false, not_or]; exact ⟨hb1, hb2⟩) (Heap.get?_push_of_some _ (Heap.get?_push_of_some _ e))

      · cases r₂ with
        | error e => exact hr₂
        | ok fl₂ =>
          cases fl₂ with
          | ret r =>
            obtain ⟨rfl, h', tk, c', rfl, hS', hc', hk'⟩ := hr₂
            repeat (any_goals (first | assumption | wp_step))
            exact h _ _ _ hS' hc' hk'
          | _ => exact hr₂.elim
    | _ => exact hr.elim

end
end L2

set_option Elab.async false
set_option linter.all false
set_option maxRecDepth 100000
set_option maxHeartbeats 4000000
/-! set(a list of texts). -/
namespace L2
open PySem PySem.Spec PyProof.Rows
def keyOfS (e : Int × Value) : Str := match e.2 with | .str k _ => k | _ => ⟨#[]⟩
def GoodS (P : Program) (w : World) (e : Int × Value) : Prop := ∃ k tk, e.2 = Value.str k tk ∧ e.1 = (strKind P w).hash k
def SetRS (P : Program) (w : World) (h : Heap) (a : Addr) (S : Str → Bool) (n : Nat) : Prop :=
  ∃ o es ep t, h.get? a = some o ∧ o.ExactSet ∧ o.data = .set es ep t ∧ (∀ e ∈ es.toList, GoodS P w e) ∧ (es.toList.map keyOfS).Nodup ∧ (∀ k, S k = true ↔ k ∈ es.toList.map keyOfS) ∧
    es.size < scanBound ∧ t.fits es.size = true ∧ es.size = n ∧ Ris t.place.toList ∧ (w.params.followText "set-order" = true ∨ t.led = true)
section
variable {P : Program} {w : World} {h h' : Heap} {a : Addr} {S : Str → Bool} {n : Nat}

theorem SetRS.at (R : SetRS P w h a S n) (k : ∀ o, h.get? a = some o → h'.get? a = some o) : SetRS P w h' a S n := by
  obtain ⟨o, es, ep, t, ho, r⟩ := R
  exact ⟨o, es, ep, t, k o ho, r⟩
theorem SetRS.lt (R : SetRS P w h a S n) : a < h.objs.size := by
  obtain ⟨o, es, ep, t, ho, r⟩ := R
  exact Heap.lt_size ho
theorem SetRS.congr {S' : Str → Bool} (R : SetRS P w h a S n) (e : ∀ k, S' k = S k) : SetRS P w h a S' n := by
  have q : S' = S := funext e
  rw [q]; exact R
theorem goodS_elems {l : List (Int × Value)} (g : ∀ e ∈ l, GoodS P w e) : ElemsOf (strKind P w) l := fun e he => by
  obtain ⟨k, tk, h1, h2⟩ := g e he
  exact ⟨⟨k, by rw [h1]; exact strKind_is P w k tk, h2⟩, by rw [h1] <;> rfl⟩
theorem goodS_is {e : Int × Value} (g : GoodS P w e) (k : Str) : (strKind P w).is k e.2 = true ↔ keyOfS e = k := by
  obtain ⟨k0, tk, h1, _⟩ := g
  unfold keyOfS
  rw [h1]
  show ((k0 == k) = true) ↔ k0 = k
  exact beq_iff_eq
theorem goodS_mem {l : List (Int × Value)} (g : ∀ e ∈ l, GoodS P w e) (k : Str) : k ∈ l.map keyOfS ↔ ∃ e ∈ l, (strKind P w).is k e.2 = true := by
  rw [List.mem_map]
  constructor
  · rintro ⟨e, he, q⟩
    exact ⟨e, he, (goodS_is (g e he) k).2 q⟩
  · rintro ⟨e, he, q⟩
    exact ⟨e, he, (goodS_is (g e he) k).1 q⟩
end
section
variable {P : Program} {w : World} {A : Around} {E : Value → Shared → Prop} {s : Shared} {a : Addr} {S : Str → Bool} {n : Nat}
theorem setRS_add_tail {g : Bool → Sem Unit} (hg : ∀ (b : Bool) (s₁ : Shared) (Q' : Unit → Shared → Prop), Q' () s₁ → wpAny (model P w) A (g b) Q' E s₁)
    {o : Obj} {es : Array (Int × Value)} {ep : Nat} {t : SetTable} (ho : s.heap.get? a = some o) (hex : o.ExactSet) (hd : o.data = .set es ep t)
    {es1 : Array (Int × Value)} {t2 : SetTable} {S' : Str → Bool} (g1 : ∀ e ∈ es1.toList, GoodS P w e) (nd1 : (es1.toList.map keyOfS).Nodup) (m1 : ∀ k, S' k = true ↔ k ∈ es1.toList.map keyOfS)
    (hb1 : es1.size < scanBound) (hf2 : t2.fits es1.size = true) (hr : Ris t2.place.toList) (hl : w.params.followText "set-order" = true ∨ t2.led = true) {wasDummy : Bool} {R : Option Bool → Shared → Prop}
    (hR : ∀ h', Heap.SameBut a s.heap h' → SetRS P w h' a S' es1.size → R (some true) { s with heap := h' }) :
    wpAny (model P w) A (do
        storeSet a es1 t2
        if (!wasDummy && t2.tooFull) = true then do
            g (relayAll t2 es1 (SetTable.grown es1.size)).2.2
            storeSet a (relayAll t2 es1 (SetTable.grown es1.size)).1 (relayAll t2 es1 (SetTable.grown es1.size)).2.1
            pure (some true)
          else pure (some true)) R E s := by
  refine wpAny_bind (wpAny_storeSet_of ho hd ?_ (fits_of_scanBound hb1))
  have ho1 := store_at (es' := es1) (t' := t2) ho hd
  have sb1 := Heap.SameBut.update s.heap a (Obj.putSet es1 t2)
  split
  · have pm := relayAll_perm t2 es1 (SetTable.grown es1.size)
    have hf3 := relayAll_fits t2 es1 (SetTable.grown es1.size)
    have hr3 := relayAll_ris t2 es1 (SetTable.grown es1.size)
    have hl3 := relayAll_led t2 es1 (SetTable.grown es1.size)
    generalize relayAll t2 es1 (SetTable.grown es1.size) = Z at pm hf3 hr3 hl3 ⊢
    obtain ⟨es2, t3, gave⟩ := Z
    dsimp only at pm hf3 hr3 hl3 ⊢
    have hsz : es2.size = es1.size := by rw [← Array.length_toList, pm.length_eq, Array.length_toList]
    have hb2 : es2.size < scanBound := by rw [hsz]; exact hb1
    refine wpAny_bind (hg _ _ _ ?_)
    refine wpAny_bind (wpAny_storeSet_of ho1 rfl ?_ (fits_of_scanBound hb2))
    have ho2 := store_at (es' := es2) (t' := t3) ho1 rfl
    refine wpAny_pure (hR _ (sb1.trans (Heap.SameBut.update _ a _)) ?_)
    exact ⟨_, es2, _, t3, ho2, hex, rfl, fun e he => g1 e (pm.mem_iff.mp he), (pm.map keyOfS).nodup_iff.mpr nd1, fun k => (m1 k).trans (pm.map keyOfS).mem_iff.symm, hb2, hf3, hsz, hr3,
      hl.imp id fun z => by rw [hl3]; exact z⟩
  · exact wpAny_pure (hR _ sb1 ⟨_, es1, _, t2, ho1, hex, rfl, g1, nd1, m1, hb1, hf2, rfl, hr, hl⟩)

theorem setRS_add_hashed {k : Str} {tk : Tok} {Q : Bool → Shared → Prop} (R : SetRS P w s.heap a S n) (room : n + 1 < scanBound)
    (hQ : ∀ h', Heap.SameBut a s.heap h' → SetRS P w h' a (fun j => S j || decide (j = k)) (if S k = true then n else n + 1) → Q (!S k) { s with heap := h' }) :
    wpAny (model P w) A (setAddHashed a (.str k tk) ((strKind P w).hash k)) Q E s := by
  obtain ⟨o, es, ep, t, ho, hex, hd, g, nd, hm, hb, hf, hn, hr, hl⟩ := R
  have hkey : (strKind P w).is k (.str k tk) = true := strKind_is P w k tk
  have hsc : (Value.str k tk).scannable = true := rfl
  have hel : ElemsOf (strKind P w) es.toList := goodS_elems g
  unfold setAddHashed setAddHashedIn
  refine wpAny_holding (wpAny_bind (wpAny_setState_of ho hd hf ?_))
  dsimp only
  rw [byScan_of hsc hb hel]
  simp only [↓reduceIte]
  unfold setAddByScan
  refine wpAny_bind ?_
  refine wpAny_bind (wpAny_rule ?_)
  refine wpAny_bind (wpAny_setScan_of hkey ho hd hf hel ?_)
  cases hfi : List.findIdx? (fun e => (strKind P w).is k e.2) es.toList with
  | some j =>
    dsimp only
    obtain ⟨hj, pj, _⟩ := List.findIdx?_eq_some_iff_getElem.mp hfi
    have hSk : S k = true := (hm k).2 ((goodS_mem (P := P) (w := w) g k).2 ⟨es.toList[j], List.getElem_mem hj, pj⟩)
    refine wpAny_pure (wpAny_pure ?_)
    have q := hQ s.heap (Heap.SameBut.refl a s.heap) ⟨o, es, ep, t, ho, hex, hd, g, nd, fun i => by
      rw [Bool.or_eq_true, decide_eq_true_eq, ← hm i]
      exact ⟨fun z => z.elim id (fun e => e ▸ hSk), .inl⟩, hb, hf, by rw [if_pos hSk]; exact hn, hr, hl⟩
    rw [hSk] at q
    exact q
  | none =>
    dsimp only
    have hnk : k ∉ es.toList.map keyOfS := fun z => by
      obtain ⟨e, he, q⟩ := (goodS_mem (P := P) (w := w) g k).1 z
      have c := List.findIdx?_eq_none_iff.mp hfi e he
      rw [q] at c
      cases c
    have hSk : S k = false := by
      cases q : S k with
      | false => rfl
      | true => exact absurd ((hm k).1 q) hnk
    have hgw : ∀ (b : Bool) {s₁ : Shared} {Q' : Unit → Shared → Prop}, Q' () s₁ → wpAny (model P w) A (match b with | true => rule "set.scan.the-table-gave-way" | false => pure ()) Q' E s₁ :=
      fun b s₁ Q' q => by cases b <;> first | exact wpAny_pure q | exact wpAny_rule q
    have pm := layNew_perm t es ((strKind P w).hash k) (.str k tk)
    have hf1 := layNew_fits t es ((strKind P w).hash k) (.str k tk)
    have hr1 := layNew_ris t es ((strKind P w).hash k) (.str k tk) hr
    have hl1 := layNew_led t es ((strKind P w).hash k) (.str k tk)
    generalize layNew t es ((strKind P w).hash k) (.str k tk) = Z at pm hf1 hr1 hl1 ⊢
    obtain ⟨es1, t1, wasDummy, gave⟩ := Z
    dsimp only at pm hf1 hr1 hl1 ⊢
    rw [Array.toList_push] at pm
    have pc : es1.toList.Perm (((strKind P w).hash k, Value.str k tk) :: es.toList) := pm.trans (List.perm_append_singleton _ _)
    have pk : (es1.toList.map keyOfS).Perm (k :: es.toList.map keyOfS) := pc.map keyOfS
    have g1 : ∀ e ∈ es1.toList, GoodS P w e := fun e he => by
      rcases List.mem_cons.mp (pc.mem_iff.mp he) with z | z
      · rw [z]; exact ⟨k, tk, rfl, rfl⟩
      · exact g e z
    have nd1 : (es1.toList.map keyOfS).Nodup := pk.nodup_iff.mpr (List.nodup_cons.mpr ⟨hnk, nd⟩)
    have m1 : ∀ i, (S i || decide (i = k)) = true ↔ i ∈ es1.toList.map keyOfS := fun i => by
      rw [Bool.or_eq_true, decide_eq_true_eq, hm i, pk.mem_iff, List.mem_cons]
      exact Or.comm
    have hsz : es1.size = n + 1 := by rw [← Array.length_toList, pc.length_eq, List.length_cons, Array.length_toList, hn]
    have hb1 : es1.size < scanBound := by rw [hsz]; exact room
    have hled : w.params.followText "set-order" = true ∨ t1.led = true := hl.imp id fun z => by rw [hl1]; exact z
    have fin : ∀ h', Heap.SameBut a s.heap h' → SetRS P w h' a (fun j => S j || decide (j = k)) es1.size → Q true { s with heap := h' } := fun h' sb r => by
      have q := hQ h' sb
      rw [hSk] at q
      rw [hsz] at r
      exact q r
    refine wpAny_bind (hgw _ ?_)
    split
    · refine wpAny_bind ?_
      rw [hashByValue_scannable 8 hsc]
      refine wpAny_pure ?_
      refine setRS_add_tail ?_ ho hex hd g1 nd1 m1 hb1 ?_ ?_ ?_ ?_
      · intro b s₁ Q' q; cases b <;> first | exact wpAny_pure q | exact wpAny_rule q
      · first | (split <;> first | exact hf1 | exact SetTable.fits_plain_off hf1) | exact hf1
      · first | (split <;> exact hr1) | exact hr1
      · first | (split <;> exact hled) | exact hled
      · intro h' sb r; dsimp only; exact wpAny_pure (fin h' sb r)
    · refine wpAny_bind (wpAny_pure ?_)
      simp only [↓reduceIte]
      refine setRS_add_tail ?_ ho hex hd g1 nd1 m1 hb1 hf1 hr1 hled ?_
      · intro b s₁ Q' q; cases b <;> first | exact wpAny_pure q | exact wpAny_rule q
      · intro h' sb r; dsimp only; exact wpAny_pure (fin h' sb r)

end
theorem setRS_new_at {P : Program} {w : World} {h : Heap} {a : Addr} {ns : List Str} (ho : h.get? a = some { cls := .type "set", dict := none, data := .set #[] 0 (.fresh 0 0 (!w.params.followText "set-order")) }) : SetRS P w h a (fun j => decide (j ∈ ns.take 0)) 0 :=
  ⟨_, #[], 0, _, ho, ⟨rfl, rfl, rfl⟩, rfl, (fun e he => by simp at he), (by simp), (fun k => by simp), (by decide), (by rfl), rfl, List.Pairwise.nil, by
    show _ ∨ (!w.params.followText "set-order") = true
    cases w.params.followText "set-order"
    · exact .inr rfl
    · exact .inl rfl⟩
section
variable {P : Program} {w : World} {A : Around} {E : Value → Shared → Prop} {s : Shared}
theorem set_update_strs {I : Addr} {fp wr : List Addr} {G : Array GenState → Array GenState → Prop} {n : Nat} {Pv : Nat → Value → Prop} {St : Nat → Shared → Prop} {R : Result → Shared → Prop}
    (W : WalksS P w A.in1 I fp wr G n Pv St) (S : Addr) (hSf : S ∉ fp) (ns : List Str) (hn : n = ns.length) (hb : ns.length + 1 < scanBound) (hval : ∀ i v, Pv i v → ∃ k t, ns[i]? = some k ∧ v = .str k t) :
    ∀ (k i : Nat) (s : Shared), n - i = k → i ≤ n → St i s → (∃ c, c ≤ i ∧ SetRS P w s.heap S (fun j => decide (j ∈ ns.take i)) c) →
      (∀ s' c, Moved (S :: wr) G s s' → c ≤ n → SetRS P w s'.heap S (fun j => decide (j ∈ ns)) c → R (.ok (.ret .none)) s') →
      codeAny (model P w) A (.builtin "set.update.loop" ⟨[.ref S, .ref I], []⟩) R s := by
  have hSw : S ∉ wr := fun h => hSf (W.sub _ h)
  have hsub : ∀ b ∈ wr, b ∈ S :: wr := fun b hb => List.mem_cons_of_mem _ hb
  intro k
  induction k with
  | zero =>
    intro i s hk' hi hst ⟨c, hc, hS⟩ hR
    have hin : i = n := by omega
    subst hin
    refine codeAny_builtin F.entry_set_update_loop ?_
    rw [Around.under_plainId F.plain_set_update_loop _]
    show wpAny _ A.in1 (pyNext (.ref I) >>= _) _ _ s
    refine wpAny_bind (W.done s _ _ hst fun s' hm => ?_)
    show wpAny _ A.in1 (ret Value.none) _ _ s'
    have e : ns.take i = ns := List.take_of_length_le (by omega)
    rw [e] at hS
    exact wpAny_pure (hR s' c (hm.mono hsub) hc (hS.at fun o e => hm.heap S o hSw e))
  | succ k ih =>
    intro i s hk' hi hst ⟨c, hc, hS⟩ hR
    have hlt : i < n := by omega
    refine codeAny_builtin F.entry_set_update_loop ?_
    rw [Around.under_plainId F.plain_set_update_loop _]
    show wpAny _ A.in1 (pyNext (.ref I) >>= _) _ _ s
    refine wpAny_bind (W.item i s _ _ hlt hst fun v s' hP hst' hm => ?_)
    obtain ⟨z, t, hz, rfl⟩ := hval i v hP
    have hS' : SetRS P w s'.heap S (fun j => decide (j ∈ ns.take i)) c := hS.at fun o e => hm.heap S o hSw e
    show wpAny _ A.in1 (holding [Value.str z t] (setAdd S (.str z t)) >>= _) _ _ s'
    refine wpAny_bind (wpAny_holding ?_)
    unfold setAdd
    refine wpAny_holding ?_
    refine wpAny_bind ((strKind P w).pyHash (k := z) (strKind_is _ _ _ _) ?_)
    refine setRS_add_hashed (s := { s' with toks := s'.toks + 1 }) hS' (by omega) fun h' hsb hS2 => ?_
    have hS3 : SetRS P w h' S (fun j => decide (j ∈ ns.take (i + 1))) (if decide (z ∈ ns.take i) = true then c else c + 1) := hS2.congr fun j => by
      rw [List.take_add_one, hz]
      simp [List.mem_append]
    have hc3 : (if decide (z ∈ ns.take i) = true then c else c + 1) ≤ i + 1 := by
      split <;> omega
    refine wpAny_pure ⟨plainId_quiet F.plain_set_update_loop _, ih (i + 1) _ (by omega) hlt (W.frame _ s' _ _ hst' (Nat.le_succ _) fun b hb o e => ?_) ⟨_, hc3, hS3⟩ fun s'' c2 hm'' hc'' hS'' => ?_⟩
    · rw [hsb.2 b (fun h : b = S => hSf (by rw [← h]; exact hb))]; exact e
    · refine hR s'' c2 (Moved.trans W.gtrans ((hm.mono hsub).then_heap (Nat.le_succ _) fun b o hb e => ?_) hm'') hc'' hS''
      rw [hsb.2 b (fun h : b = S => hb (by rw [h]; exact List.mem_cons_self))]; exact e

theorem strs_get : ∀ {us : List Value} {ns : List Str} {i : Nat} {v : Value}, StrsAre us ns → us[i]? = some v → ∃ k t, ns[i]? = some k ∧ v = .str k t
  | _, _, i, v, .nil, e => by simp at e
  | _, _, 0, v, .cons x t r, e => by
    simp at e
    subst e
    exact ⟨_, _, rfl, rfl⟩
  | _, _, i + 1, v, .cons x t r, e => by
    obtain ⟨k, t, h1, h2⟩ := strs_get (i := i) (v := v) r (by simpa using e)
    exact ⟨k, t, by simpa using h1, h2⟩
set_option maxRecDepth 100000 in
set_option maxHeartbeats 3200000 in
theorem call_set_lstS {l : Addr} {items : Array Value} (ns : List Str) {Q : Value → Shared → Prop} (hh : A.handled = none) (hl : s.heap.IsList l items) (hit : StrsAre items.toList ns) (hb : ns.length + 1 < scanBound)
    (h : ∀ (h' : Heap) (tk c : Nat), SetRS P w h' s.heap.objs.size (fun j => decide (j ∈ ns)) c → c ≤ ns.length → (∀ b o, s.heap.get? b = some o → h'.get? b = some o) → Q (.ref s.heap.objs.size) { s with heap := h', toks := tk }) :
    wpAny (model P w) A (call (.type "set") [.ref l]) Q E s := by
  have hisz : items.size = ns.length := by
    have q := hit.length
    rw [Array.length_toList] at q
    exact q
  obtain ⟨c, tl, hmro⟩ := F.called_set.mro
  have hmade := F.called_set.made
  have hsub := F.called_set.sub
  refine wpAny_call (codeAny_of_tree ?_)
  show wpAny _ _ (callAny (.type "set") _) _ _ _
  refine wpAny_pure ⟨Code.quiet_builtin _ (by decide +kernel), codeAny_builtin F.entry_type_call ?_⟩
  rw [Around.under_plain (weight_type_call_type "set" [.ref l] []) rfl]
  have h1 := F.called_set.notType
  have h2 := F.called_set.canCreate
  have hct := F.typeCall_set_1 (.ref l)
  repeat (any_goals (first | assumption | wp_step))

  refine codeAny_mono (code_set_led1 (.ref l) (E := E) (Q₁ := fun obj s₁ => obj = .ref s.heap.objs.size ∧ s₁ = { s with heap := s.heap.push { cls := .type "set", dict := none, data := .set #[] 0 (.fresh 0 0 (!w.params.followText "set-order")) } }) ⟨rfl, rfl⟩) fun r s₁ hr => ?_
  cases r with
  | error e => exact hr
  | ok fl =>
    cases fl with
    | ret obj =>
      obtain ⟨rfl, rfl⟩ := hr
      have hS : (s.heap.push { cls := .type "set", dict := none, data := .set #[] 0 (.fresh 0 0 (!w.params.followText "set-order")) }).get? s.heap.objs.size = some { cls := .type "set", dict := none, data := .set #[] 0 (.fresh 0 0 (!w.params.followText "set-order")) } := Heap.get?_push_size _ rfl
      have hT : Shared.TypeIs { s with heap := s.heap.push { cls := .type "set", dict := none, data := .set #[] 0 (.fresh 0 0 (!w.params.followText "set-order")) } } (.ref s.heap.objs.size) "set" := ⟨_, hS, rfl⟩
      have hli := F.called_set.init.lookup
      have hbi := F.called_set.init.bind (.ref s.heap.objs.size)
      repeat (any_goals (first | assumption | wp_step))

      refine codeAny_mono (codeAny_call_builtin (R := wants (fun r s₂ => r = .none ∧ ∃ h' tk c, s₂ = { s with heap := h', toks := tk } ∧ SetRS P w h' s.heap.objs.size (fun j => decide (j ∈ ns)) c ∧ c ≤ ns.length ∧
          (∀ b o, s.heap.get? b = some o → h'.get? b = some o)) E) F.called_set.init.plain F.entry_set_init (check_set_init_1 hT ?_)) fun r₂ s₂ hr₂ => ?_
      · obtain ⟨ol, hol, hcl, nl, hdl⟩ := hl
        obtain ⟨ocls, odict, odata, oslots⟩ := ol
        simp only at hcl hdl
        subst hcl; subst hdl
        have hol' : (s.heap.push { cls := .type "set", dict := none, data := .set #[] 0 (.fresh 0 0 (!w.params.followText "set-order")) }).get? l = some { cls := .type "list", dict := odict, data := .seq items nl, slots := oslots } := Heap.get?_push_of_some _ hol
        have hsls := F.sub_list_set
        have hslf := F.sub_list_frozenset
        have hne : (Value.type "list" == Value.type "dict") = false := by decide
        have hl1 : (s.heap.push { cls := .type "set", dict := none, data := .set #[] 0 (.fresh 0 0 (!w.params.followText "set-order")) }).IsList l items := ⟨_, hol', rfl, nl, rfl⟩
        unfold Builtin.«set.__init__» noKeywords Builtin.Frozenset.updateFrom
        generalize hPI : pyIter = PI
        wp_walk
        subst hPI

        refine wpAny_pyIter_list hl1 ?_
        refine wpAny_bind (wpAny_runValue ?_)
        have hlS : l < s.heap.objs.size := Heap.lt_size hol
        have hh3 : A.in1.in1.in1.handled = none := by simp [hh]
        have hz1 : (s.heap.push { cls := .type "set", dict := none, data := .set #[] 0 (.fresh 0 0 (!w.params.followText "set-order")) }).objs.size = s.heap.objs.size + 1 := Heap.size_push ..
        have hneI : l ≠ (s.heap.push { cls := .type "set", dict := none, data := .set #[] 0 (.fresh 0 0 (!w.params.followText "set-order")) }).objs.size := by
          rw [Heap.size_push]; exact Nat.ne_of_lt (Nat.lt_succ_of_lt hlS)
        have hSf : s.heap.objs.size ∉ [(s.heap.push { cls := .type "set", dict := none, data := .set #[] 0 (.fresh 0 0 (!w.params.followText "set-order")) }).objs.size, l] := by
          rw [Heap.size_push]; simp only [List.mem_cons, List.mem_singleton, List.not_mem_nil, or_false, not_or]
          exact ⟨Nat.ne_of_lt (Nat.lt_succ_self _), Nat.ne_of_gt hlS⟩
        have hval : ∀ (i : Nat) (v : Value), items[i]? = some v → ∃ k t, ns[i]? = some k ∧ v = .str k t := fun i v hv => by
          exact strs_get hit (by rw [Array.getElem?_toList]; exact hv)
        refine set_update_strs ((Walks.list hh3 _ l hneI items).toS) s.heap.objs.size
          hSf ns hisz hb hval (items.size - 0) 0 _ (by omega) (Nat.zero_le _)
          ⟨⟨_, Heap.get?_push_size _ rfl, rfl, rfl⟩, (hl1.push _)⟩ ?hS0 ?hR
        case hS0 =>
          have hget : ((s.heap.push { cls := .type "set", dict := none, data := .set #[] 0 (.fresh 0 0 (!w.params.followText "set-order")) }).push { cls := .type "list_iterator", data := .fields #[.ref l, .int 0 0] }).get? s.heap.objs.size
              = some { cls := .type "set", dict := none, data := .set #[] 0 (.fresh 0 0 (!w.params.followText "set-order")) } := Heap.get?_push_of_some _ hS
          exact ⟨0, Nat.le_refl 0, setRS_new_at hget⟩
        case hR =>
          intro s' c' hm hc' hS'
          obtain ⟨h', g2, d', tk', os'⟩ := s'
          have eg : g2 = s.gens := hm.gens
          have ed : d' = s.drawn := hm.drawn
          have eo : os' = s.os := hm.os
          subst eg; subst ed; subst eo
          show wpAny _ _ _ _ _ _
          refine wpAny_pure ?_
          show wpAny _ _ (ret Value.none) _ _ _
          rw [hisz] at hc'
          refine wpAny_pure ⟨rfl, h', tk', c', rfl, hS', hc', fun b o e => ?_⟩
          have hb0 : b < s.heap.objs.size := Heap.lt_size e
          have hb1 : b ≠ s.heap.objs.size := Nat.ne_of_lt hb0
          have hb2 : b ≠ (s.heap.push { cls := .type "set", dict := none, data := .set #[] 0 (.fresh 0 0 (!w.params.followText "set-order")) }).objs.size := by
            rw [Heap.size_push]; exact Nat.ne_of_lt (Nat.lt_succ_of_lt hb0)
          exact hm.heap b o (by simp only [List.mem_cons, List.mem_singleton, List.not_mem_nil, or_false, not_or]; exact ⟨hb1, hb2⟩) (Heap.get?_push_of_some _ (Heap.get?_push_of_some _ e))

      · cases r₂ with
        | error e => exact hr₂
        | ok fl₂ =>
          cases fl₂ with
          | ret r =>
            obtain ⟨rfl, h', tk, c', rfl, hS', hc', hk'⟩ := hr₂
            repeat (any_goals (first | assumption | wp_step))
            exact h _ _ _ hS' hc' hk'
          | _ => exact hr₂.elim
    | _ => exact hr.elim

end
end L2

set_option Elab.async false
set_option linter.all false
set_option maxRecDepth 100000
set_option maxHeartbeats 4000000
/-! set(xs), sorted(set(xs)), xs a list of ints or of texts. -/
namespace L2
open PySem PySem.Spec PyProof.Rows PySem.KX
section
variable {P : Program} {w : World} {A : Around} {E : Value → Shared → Prop} {s : Shared} {a : Addr}
def txtOf : Value → Str
  | .str x _ => x
  | _ => ⟨#[]⟩
theorem strs_all : ∀ l : List Value, (∀ v ∈ l, ∃ k tk, v = Value.str k tk) → StrsAre l (l.map txtOf)
  | [], _ => .nil
  | v :: l, h => by
    obtain ⟨k, tk, rfl⟩ := h v List.mem_cons_self
    exact .cons k tk (strs_all l fun u hu => h u (List.mem_cons_of_mem _ hu))
theorem sorted_setS {S : Str → Bool} {n : Nat} {Q : Value → Shared → Prop} (R : SetRS P w s.heap a S n) (hh : A.handled = none) (h64 : n < 64)
    (hQ : ∀ s' p (out : List Value) (c : Nat) (ys : List Str), (∀ b o, s.heap.get? b = some o → s'.heap.get? b = some o) → s'.gens = s.gens → s'.os = s.os → s.heap.objs.size ≤ p →
      s'.heap.get? p = some (seqObj "list" out.toArray c) → StrsAre out ys → ys.Nodup → sortedS ys = true → (∀ k, k ∈ ys ↔ S k = true) → ys.length = n → Q (.ref p) s') :
    wpAny (model P w) A (call (.builtin "sorted") [.ref a]) Q E s := by
  obtain ⟨o, es, ep, t, ho, hex, hd, g, nd, hm, hb, hf, hn, hr, hl⟩ := R
  refine Calls.call_function_entry kind_sorted plain_sorted entry_sorted (args_sorted1 _) ?_
  unfold Builtin.«sorted»
  refine wpAny_bind (m := checkCount "sorted" 1 1 _) (wpAny_pure ?_)
  refine wpAny_bind (collect_set (A := A.in1) hh ⟨o, ho, hex.1, hd⟩ hf hb hr hl fun s1 vs k1 hz g1 o1 pm => ?_)
  have hvl : vs.length = n := by rw [pm.length_eq, List.length_map, Array.length_toList]; exact hn
  have hS : StrsAre vs (vs.map txtOf) := strs_all vs fun v hv => by
    obtain ⟨e, he, q⟩ := List.mem_map.mp (pm.mem_iff.mp hv)
    obtain ⟨k, tk, h1, _⟩ := g e he
    exact ⟨k, tk, by rw [← q]; exact h1⟩
  have pk : (vs.map txtOf).Perm (es.toList.map keyOfS) := by
    have q := pm.map txtOf
    rw [List.map_map] at q
    exact q
  refine wpAny_bind (wpAny_newList ?_ (by rw [hvl, sizeLine_eq]; omega))
  have hoL : (s1.heap.push (seqObj "list" vs.toArray 0)).get? s1.heap.objs.size = some (seqObj "list" vs.toArray 0) := Heap.get?_push_size _ rfl
  refine wpAny_bind (wpAny_holding (wpAny_call_entry slot_list_sort ⟨_, hoL, rfl⟩ entry_list_sort
    (list_sort_treeK strKind_oneLt hoL hS.keysOf (fun v₁ v₂ rest e => keyKind_strs (by rw [← e]; exact hS)) (by rw [hvl]; exact h64) fun st' hp hs => ⟨_, rfl, ?_⟩) (args_list_sort _)))
  obtain ⟨ys, y1, y2, y3⟩ := sorted_out_str hS hp hs
  obtain ⟨c, hc⟩ := sortedHeap_at (vs := vs) (out := (arrOf st').map (·.2)) hoL
  have pn : ys.Perm (es.toList.map keyOfS) := y2.trans pk
  refine wpAny_pure ⟨_, rfl, hQ _ s1.heap.objs.size ((arrOf st').map (·.2)).toList c ys (fun b u e => ?_) g1 o1 hz (by rw [Array.toArray_toList]; exact hc) y1 (pn.nodup_iff.mpr nd) y3 (fun k => by rw [pn.mem_iff, ← hm k]) ?_⟩
  · have q := k1 b u e
    have hlt := Heap.lt_size q
    show (sortedHeap (s1.heap.push (seqObj "list" vs.toArray 0)) s1.heap.objs.size vs ((arrOf st').map (·.2))).get? b = some u
    rw [sortedHeap_old (Nat.ne_of_lt hlt) (by rw [size_push']; exact Nat.lt_succ_of_lt hlt)]
    exact Heap.get?_push_of_some _ q
  · rw [pn.length_eq, List.length_map, Array.length_toList]; exact hn
end
/-- the set of texts at a -/
def SetSO (P : Program) (w : World) (a : Addr) (S : Str → Bool) (n : Nat) : HO := .ext fun h => SetRS P w h a S n
section
variable {X : Cx}
theorem setSO_new {w : World} {P : Program} {H : Hp} {h : Heap} {a : Addr} {S : Str → Bool} {n : Nat} (R : SetRS P w h a S n) : ObjOk P w H h a (SetSO P w a S n) := by
  have ⟨o, _, _, _, ho, _⟩ := R
  exact ⟨R, ⟨o, ho⟩, fun h1 h2 p k => SetRS.at p k⟩
/-- set(l), l a list of ints -/
def rSetLI (K : PySem.W.Frag) (w : World) : List V → Hp → VK → Prop := fun xs H Q => ∃ (t : Addr) (ns : List Int), xs = [.ref t] ∧ SqL K H t (ns.map V.int) ∧ ns.length ≤ 60 ∧ ∀ (p : Addr) (c : Nat) (H' : Hp), Same H H' → H p = none → H' p = some (SetO w p (fun j => decide (j ∈ ns)) c) → c ≤ ns.length → Q (.ref p) H'
theorem call_setLI (hc : X.calm = true) : CallR X (.type "set") (rSetLI X.K X.w) := by
  intro pins s σ H xs us Q I r h
  obtain ⟨t, ns, rfl, ht, hn, q⟩ := h
  rw [Vals.ref1 r]
  obtain ⟨its, rv, pl, _⟩ := I.list ht
  have hi := ints_of_vals rv
  refine call_set_lstI ns (I.ok.hd hc) pl.isList (by simpa using hi) (by have : scanBound = scanBound := rfl; show ns.length + 1 < scanBound; first | (unfold scanBound; omega) | omega) fun h' tk c R hcn k => ?_
  have hf : H s.heap.objs.size = none := I.hok.fresh (Nat.le_refl _)
  exact ⟨.ref s.heap.objs.size, upd H s.heap.objs.size (SetO X.w s.heap.objs.size (fun j => decide (j ∈ ns)) c), I.laid (t' := tk) k (Nat.le_refl _) (setO_new R), rfl, q _ c _ ((Same.refl _).new hf) hf upd_same hcn⟩
/-- set(l), l a list of texts -/
def rSetLS (K : PySem.W.Frag) (P : Program) (w : World) : List V → Hp → VK → Prop := fun xs H Q => ∃ (t : Addr) (ns : List Str), xs = [.ref t] ∧ SqL K H t (ns.map V.str) ∧ ns.length ≤ 60 ∧ ∀ (p : Addr) (c : Nat) (H' : Hp), Same H H' → H p = none → H' p = some (SetSO P w p (fun j => decide (j ∈ ns)) c) → c ≤ ns.length → Q (.ref p) H'
theorem call_setLS (hc : X.calm = true) : CallR X (.type "set") (rSetLS X.K X.prog X.w) := by
  intro pins s σ H xs us Q I r h
  obtain ⟨t, ns, rfl, ht, hn, q⟩ := h
  rw [Vals.ref1 r]
  obtain ⟨its, rv, pl, _⟩ := I.list ht
  have hi := rv.strs
  refine call_set_lstS ns (I.ok.hd hc) pl.isList (by simpa using hi) (by have : scanBound = scanBound := rfl; show ns.length + 1 < scanBound; first | (unfold scanBound; omega) | omega) fun h' tk c R hcn k => ?_
  have hf : H s.heap.objs.size = none := I.hok.fresh (Nat.le_refl _)
  exact ⟨.ref s.heap.objs.size, upd H s.heap.objs.size (SetSO X.prog X.w s.heap.objs.size (fun j => decide (j ∈ ns)) c), I.laid (t' := tk) k (Nat.le_refl _) (setSO_new R), rfl, q _ c _ ((Same.refl _).new hf) hf upd_same hcn⟩
/-- sorted(S), S a set of texts -/
def rSortLS (P : Program) (w : World) : List V → Hp → VK → Prop := fun xs H Q => ∃ (a : Addr) (S : Str → Bool) (n : Nat), xs = [.ref a] ∧ H a = some (SetSO P w a S n) ∧ n < 64 ∧
  ∀ (ys : List Str) (p : Addr) (H' : Hp), ys.Nodup → sortedS ys = true → (∀ k : Str, k ∈ ys ↔ S k = true) → ys.length = n → Same H H' → H p = none → H' p = some (.lst (ys.map V.str)) → Q (.ref p) H'
theorem call_sortLS (hc : X.calm = true) : CallR X (.builtin "sorted") (rSortLS X.prog X.w) := by
  intro pins s σ H xs us Q I r h
  obtain ⟨a, S, n, rfl, ha, hn, q⟩ := h
  rw [Vals.ref1 r]
  refine sorted_setS (I.hok a _ ha).1 (I.ok.hd hc) hn fun s' p out c ys k g o hz ho h1 h2 h3 h4 h5 => ?_
  have hf : H p = none := I.hok.fresh hz
  have hlen : (ys.map V.str).length ≤ sizeLine := by rw [List.length_map, h5, sizeLine_eq]; omega
  have J : Inv X pins σ (upd H p (.lst (ys.map V.str))) { s with heap := s'.heap, gens := s'.gens, drawn := s'.drawn, toks := s'.toks } :=
    I.call (ch := []) (Un.laid k hz hf) (I.hok.laid k hz ⟨hlen, out, c, vals_of_strs h1, ho⟩) (by rw [g]; exact I.bare) (fun _ z => nomatch z)
  have e : s' = { s with heap := s'.heap, gens := s'.gens, drawn := s'.drawn, toks := s'.toks } := by
    cases s'
    cases s
    cases o
    rfl
  rw [e]
  exact ⟨.ref p, _, J, rfl, q ys p _ h2 h3 h4 h5 ((Same.refl _).new hf) hf upd_same⟩
end
end L2

set_option Elab.async false
set_option linter.all false
set_option maxRecDepth 100000
set_option maxHeartbeats 4000000
/-! Rows that ascend: the mathematics. -/
namespace L2
open PySem PySem.Spec PyProof.Rows PySem.KX
theorem asc_eq {α : Type} {R : α → α → Prop} (irr : ∀ a, ¬ R a a) (tr : ∀ a b c, R a b → R b c → R a c) : ∀ {as bs : List α}, as.Pairwise R → bs.Pairwise R → (∀ k, k ∈ as ↔ k ∈ bs) → as = bs
  | [], [], _, _, _ => rfl
  | [], b :: bs, _, _, h => absurd ((h b).mpr List.mem_cons_self) (by simp)
  | a :: as, [], _, _, h => absurd ((h a).mp List.mem_cons_self) (by simp)
  | a :: as, b :: bs, h1, h2, h => by
    obtain ⟨a1, a2⟩ := List.pairwise_cons.mp h1
    obtain ⟨b1, b2⟩ := List.pairwise_cons.mp h2
    have e : a = b := by
      rcases List.mem_cons.mp ((h a).mp List.mem_cons_self) with z | z
      · exact z
      · rcases List.mem_cons.mp ((h b).mpr List.mem_cons_self) with y | y
        · exact y.symm
        · exact absurd (tr _ _ _ (b1 a z) (a1 b y)) (irr _)
    subst e
    congr 1
    refine asc_eq irr tr a2 b2 fun k => ⟨fun hk => ?_, fun hk => ?_⟩
    · rcases List.mem_cons.mp ((h k).mp (List.mem_cons_of_mem _ hk)) with z | z
      · exact absurd (z ▸ a1 k hk) (irr _)
      · exact z
    · rcases List.mem_cons.mp ((h k).mpr (List.mem_cons_of_mem _ hk)) with z | z
      · exact absurd (z ▸ b1 k hk) (irr _)
      · exact z
theorem ascD_cons {d e : PyData} {r : List PyData} : ascD (d :: e :: r) = (ltD d e && ascD (e :: r)) := rfl
theorem asc_pair {α : Type} {R : α → α → Prop} {f : α → PyData} (h : ∀ a b, ltD (f a) (f b) = true ↔ R a b) (tr : ∀ a b c, R a b → R b c → R a c) : ∀ l : List α, ascD (l.map f) = true ↔ l.Pairwise R
  | [] => by simp [ascD]
  | [a] => by simp [ascD]
  | a :: b :: r => by
    have ih := asc_pair h tr (b :: r)
    rw [List.map_cons, List.map_cons, ascD_cons, Bool.and_eq_true, h, ← List.map_cons, ih]
    constructor
    · rintro ⟨h1, h2⟩
      refine List.pairwise_cons.mpr ⟨fun x hx => ?_, h2⟩
      rcases List.mem_cons.mp hx with z | z
      · rw [z]; exact h1
      · exact tr _ _ _ h1 ((List.pairwise_cons.mp h2).1 x z)
    · intro h1
      obtain ⟨h2, h3⟩ := List.pairwise_cons.mp h1
      exact ⟨h2 b List.mem_cons_self, h3⟩
abbrev ltT (x y : Str) : Prop := x.cps.toList < y.cps.toList
theorem ltT_irr (x : Str) : ¬ ltT x x := List.lt_irrefl _
theorem ltT_tr (x y z : Str) (h : ltT x y) (k : ltT y z) : ltT x z := List.lt_trans h k
theorem asc_ints (ns : List Int) : ascD (ns.map PyData.int) = true ↔ ns.Pairwise (· < ·) := asc_pair (f := PyData.int) (fun a b => by show decide (a < b) = true ↔ a < b; simp) (fun a b c h k => by omega) ns
theorem asc_strs (xs : List Str) : ascD (xs.map PyData.str) = true ↔ xs.Pairwise ltT := asc_pair (f := PyData.str) (fun a b => by show decide (ltT a b) = true ↔ ltT a b; simp) ltT_tr xs
theorem eqvAll_map {α : Type} {f : α → PyData} (inj : ∀ a b, PyData.eqv (f a) (f b) = true ↔ a = b) : ∀ xs ys : List α, PyData.eqvAll (xs.map f) (ys.map f) = true ↔ xs = ys
  | [], [] => by simp [PyData.eqvAll]
  | [], y :: ys => by simp [PyData.eqvAll]
  | x :: xs, [] => by simp [PyData.eqvAll]
  | x :: xs, y :: ys => by
    simp only [List.map_cons, PyData.eqvAll, Bool.and_eq_true, inj, eqvAll_map inj xs ys, List.cons.injEq]
theorem eqv_ints {ns ms : List Int} : PyData.eqv (.list (ns.map .int)) (.list (ms.map .int)) = true ↔ ns = ms := by
  show PyData.eqvAll _ _ = true ↔ _
  exact eqvAll_map (fun a b => by show (a == b) = true ↔ a = b; simp) ns ms
theorem eqv_strs {ns ms : List Str} : PyData.eqv (.list (ns.map .str)) (.list (ms.map .str)) = true ↔ ns = ms := by
  show PyData.eqvAll _ _ = true ↔ _
  exact eqvAll_map (fun a b => by show (a == b) = true ↔ a = b; simp) ns ms
/-- equal to its own ascending row exactly if it ascends -/
theorem eqv_tidy {ns ms : List Int} (t : Tidy ns ms) : PyData.eqv (.list (ns.map .int)) (.list (ms.map .int)) = ascD (ns.map .int) := by
  refine Bool.eq_iff_iff.mpr ?_
  rw [eqv_ints, asc_ints]
  constructor
  · intro h
    rw [h]
    exact t.asc
  · intro h
    exact tidy_eq h t.asc fun k => (t.mem k).symm
theorem ltT_tri {x y : Str} (h : ¬ ltT y x) (n : x ≠ y) : ltT x y := by
  have h1 : x.cps.toList ≤ y.cps.toList := h
  rcases List.le_iff_lt_or_eq.mp h1 with z | z
  · exact z
  · exfalso
    apply n
    cases x
    cases y
    simp at z
    rw [z]
theorem rising_le : ∀ (p : Str) (ys : List Str), risingS p ys = true → ∀ y ∈ ys, ¬ ltT y p
  | p, [], _, y, hy => nomatch hy
  | p, x :: r, h, y, hy => by
    have h' : (!ltCps x.cps.toList p.cps.toList && risingS x r) = true := h
    rw [Bool.and_eq_true, ltCps_eq] at h'
    have hx : ¬ ltT x p := by
      have := h'.1
      simpa using this
    rcases List.mem_cons.mp hy with z | z
    · rw [z]; exact hx
    · have := rising_le x r h'.2 y z
      intro c
      by_cases e : x = y
      · exact hx (e ▸ c)
      · exact hx (ltT_tr _ _ _ (ltT_tri this e) c)
theorem sorted_pair : ∀ ys : List Str, sortedS ys = true → ys.Nodup → ys.Pairwise ltT
  | [], _, _ => List.Pairwise.nil
  | y :: r, h, nd => by
    obtain ⟨n1, n2⟩ := List.nodup_cons.mp nd
    have hr : sortedS r = true := by
      cases r with
      | nil => rfl
      | cons z t =>
        have h' : (!ltCps z.cps.toList y.cps.toList && risingS z t) = true := h
        rw [Bool.and_eq_true] at h'
        exact h'.2
    exact List.pairwise_cons.mpr ⟨fun z hz => ltT_tri (rising_le y r h z hz) fun e => n1 (e ▸ hz), sorted_pair r hr n2⟩
theorem eqv_sorted {xs ys : List Str} (h1 : sortedS ys = true) (h2 : ys.Nodup) (h3 : ∀ k, k ∈ ys ↔ k ∈ xs) : PyData.eqv (.list (xs.map .str)) (.list (ys.map .str)) = ascD (xs.map .str) := by
  refine Bool.eq_iff_iff.mpr ?_
  rw [eqv_strs, asc_strs]
  constructor
  · intro h
    rw [h]
    exact sorted_pair ys h1 h2
  · intro h
    exact asc_eq ltT_irr ltT_tr h (sorted_pair ys h1 h2) fun k => (h3 k).symm
/-- rows of at most 60, all the way down -/
def sm60 : PyData → Bool
  | .list xs => decide (xs.length ≤ 60) && sm60All xs
  | .tuple xs => decide (xs.length ≤ 60) && sm60All xs
  | _ => true
where sm60All : List PyData → Bool
  | [] => true
  | x :: xs => sm60 x && sm60All xs
theorem sm60_tup {ds : List PyData} (h : sm60 (.tuple ds) = true) : ds.length ≤ 60 ∧ ∀ d ∈ ds, sm60 d = true := by
  have h' : (decide (ds.length ≤ 60) && sm60.sm60All ds) = true := by simpa [sm60] using h
  rw [Bool.and_eq_true, decide_eq_true_eq] at h'
  refine ⟨h'.1, ?_⟩
  have := h'.2
  clear h h'
  induction ds with
  | nil => intro d hd; exact nomatch hd
  | cons x r ih =>
    have h2 : (sm60 x && sm60.sm60All r) = true := by simpa [sm60.sm60All] using this
    rw [Bool.and_eq_true] at h2
    intro d hd
    rcases List.mem_cons.mp hd with z | z
    · rw [z]; exact h2.1
    · exact ih h2.2 d z
end L2

set_option Elab.async false
set_option linter.all false
set_option maxRecDepth 100000
set_option maxHeartbeats 4000000
/-! tuple(x), list(x), told by what is new. -/
namespace L2
open PySem PySem.Spec PyProof.Rows PySem.KX
section
variable {X : Cx}
/-- tuple(l), l a list -/
def rTupLS (K : PySem.W.Frag) : List V → Hp → VK → Prop := fun vs H Q => ∃ (l : Addr) (ys : List V), vs = [.ref l] ∧ SqL K H l ys ∧ ∀ p H', Same H H' → H p = none → H' p = some (.tup ys) → Q (.ref p) H'
theorem call_tupLS : CallR X (.type "tuple") (rTupLS X.K) := call_tupleA.imp fun xs H Q ⟨l, ys, e, h1, k⟩ => by
  subst e
  exact .inl ⟨ys, h1, fun p n => k p _ ((Same.refl _).new n) n upd_same⟩
/-- list(x), x a list or a tuple -/
def rLstS (K : PySem.W.Frag) : List V → Hp → VK → Prop := fun vs H Q => ∃ (l : Addr) (ys : List V), vs = [.ref l] ∧ (SqL K H l ys ∨ SqT K H l ys) ∧ ∀ p H', Same H H' → H p = none → H' p = some (.lst ys) → Q (.ref p) H'
theorem call_lstS : CallR X (.type "list") (rLstS X.K) := call_listA.imp fun xs H Q ⟨l, ys, e, h1, k⟩ => by
  subst e
  exact ⟨ys, h1, fun p n => k p _ ((Same.refl _).new n) n upd_same⟩
end
end L2

set_option Elab.async false
set_option linter.all false
set_option maxRecDepth 100000
set_option maxHeartbeats 4000000
/-! bools among ints, str(x), bool(x); x[::-1] of texts and tuples; upper of plain letters. -/
namespace L2
open PySem PySem.Spec PyProof.Rows PySem.KX
section
variable {X : Cx}
/-- an int or a bool as a number -/
def numV : V → Option Int
  | .int i => some i
  | .bl b => some (if b = true then 1 else 0)
  | _ => none
/-- x + i -/
def rAddB : R2 := fun x y H Q => ∃ a j : Int, numV x = some a ∧ y = .int j ∧ Q (.int (a + j)) H
theorem op_addB : OpR X (binaryOp .Add) rAddB := by
  intro pins s σ H x y v u Q I rx ry h
  obtain ⟨a, j, e, rfl, q⟩ := h
  obtain ⟨t2, rfl⟩ := ry
  cases x with
  | int i =>
    cases e
    exact op_add pins s σ H _ _ v _ Q I rx (show RelV (.int j) (.int j t2) from ⟨t2, rfl⟩) ⟨_, _, rfl, rfl, q⟩
  | bl b =>
    cases e
    cases rx
    exact IntBool.add_bool_int ⟨.int _, H, I.tok _, ⟨_, rfl⟩, q⟩
  | _ => cases e
/-- x - i -/
def rSubB : R2 := fun x y H Q => ∃ a j : Int, numV x = some a ∧ y = .int j ∧ Q (.int (a - j)) H
theorem op_subB : OpR X (binaryOp .Sub) rSubB := by
  intro pins s σ H x y v u Q I rx ry h
  obtain ⟨a, j, e, rfl, q⟩ := h
  obtain ⟨t2, rfl⟩ := ry
  cases x with
  | int i =>
    cases e
    exact op_sub pins s σ H _ _ v _ Q I rx (show RelV (.int j) (.int j t2) from ⟨t2, rfl⟩) ⟨_, _, rfl, rfl, q⟩
  | bl b =>
    cases e
    cases rx
    exact IntBool.sub_bool_int ⟨.int _, H, I.tok _, ⟨_, rfl⟩, q⟩
  | _ => cases e
/-- i - x -/
def rSubR : R2 := fun x y H Q => ∃ a j : Int, x = .int j ∧ numV y = some a ∧ Q (.int (j - a)) H
theorem op_subR : OpR X (binaryOp .Sub) rSubR := by
  intro pins s σ H x y v u Q I rx ry h
  obtain ⟨a, j, rfl, e, q⟩ := h
  cases y with
  | int i =>
    cases e
    exact op_sub pins s σ H _ _ v u Q I rx ry ⟨_, _, rfl, rfl, q⟩
  | bl b =>
    cases e
    cases ry
    obtain ⟨t2, rfl⟩ := rx
    exact IntBool.sub_int_bool ⟨.int _, H, I.tok _, ⟨_, rfl⟩, q⟩
  | _ => cases e
/-- bool(x), x an int or a bool -/
def rBoolN : List V → Hp → VK → Prop := fun xs H Q => ∃ (x : V) (a : Int), xs = [x] ∧ numV x = some a ∧ ∀ b : Bool, Q (.bl b) H
theorem call_boolN : CallR X (.type "bool") rBoolN := call_bool1.imp fun xs H Q ⟨x, a, e, h, k⟩ => by
  subst e
  cases x with
  | int i => exact .inl ⟨i, rfl, k _⟩
  | bl b => exact .inr ⟨b, rfl, k _⟩
  | _ => cases h
/-- z[::-1]: the same signs -/
def tRevS (te : TE) : TE := fun σ H Q => te σ H fun x H1 => ∃ z, x = .str z ∧ z.length ≤ sizeLine ∧ ∀ y : Str, y.length = z.length → (∀ c ∈ y.cps.toList, c ∈ z.cps.toList) → Q (.str y) H1
theorem rev_signs (z : Str) : ((Builtin.Str.strSliceIndices none none (-1) z.length).filterMap (z.cps[·]?)) = (List.range z.length).map fun k => z.cps.getD (z.length - 1 - k) 0 := by
  rw [picked_rev, filterMap_get, List.map_map]
  · rfl
  · intro i hi
    obtain ⟨k, hk, rfl⟩ := List.mem_map.mp hi
    have hk' : k < z.length := List.mem_range.mp hk
    show z.length - 1 - k < z.length
    omega
theorem pe_revS {e : Expr} {te : TE} {k : Nat} {p1 p2 p3 pos : Pos} (he : PE X e te) : PE X (.Subscript e (.Slice none none (some (.UnaryOp .USub (.Constant (.int 1) k p1) p2)) p3) pos) (tRevS te) := by
  refine ⟨fun pins s σ H Q I h => ?_⟩
  refine Subscript_ (thn (he.run pins s σ H _ I h) fun v s1 ⟨x, H1, I1, r1, q1⟩ => ?_)
  obtain ⟨z, ex, hx, q⟩ := q1
  subst ex
  obtain ⟨t, rfl⟩ := r1
  have hst : PO X (some (.UnaryOp .USub (.Constant (.int 1) k p1) p2)) (tPart (tUn (rU fun i => .int (-i)) (tC (.int 1)))) := po_some (pe_un un_neg pe_int)
  refine wpAny_Slice (thn (po_none.run pins s1 σ H1 (fun o H2 => o = none ∧ H2 = H1) I1 ⟨rfl, rfl⟩) fun vl s2 ⟨l, H2, I2, pl, el, e2⟩ => ?_)
  subst el e2
  refine thn (po_none.run pins s2 σ H2 (fun o H3 => o = none ∧ H3 = H2) I2 ⟨rfl, rfl⟩) fun vu s3 ⟨u, H3, I3, pu, eu, e3⟩ => ?_
  subst eu e3
  refine thn (hst.run pins s3 σ H3 (fun o H4 => o = some (-1) ∧ H4 = H3) I3 ⟨1, rfl, -1, rfl, rfl, rfl⟩) fun vs s4 ⟨o, H4, I4, ps, eo, e4⟩ => ?_
  subst eo e4
  have I5 : Inv X pins σ H4 { s4 with heap := s4.heap.push { cls := .type "slice", data := .fields #[vl, vu, vs] } } := I4.kept (t' := s4.toks) fun b ob q => Heap.get?_push_of_some _ q
  show wpAny (model X.prog X.w) X.A (subscriptTail e (.Slice none none (some (.UnaryOp .USub (.Constant (.int 1) k p1) p2)) p3) (.str z t) (.ref s4.heap.objs.size)) (EP X pins σ Q) X.xe { s4 with heap := s4.heap.push { cls := .type "slice", data := .fields #[vl, vu, vs] } }
  cases pl
  cases pu
  cases ps with
  | int i tk =>
    refine tail_any (ops := [.str z t, .ref s4.heap.objs.size]) (typeIs_str _ _ _) (F.slot_str_getitem.lookup) ?_ (by with_unfolding_all rfl)
    refine wpAny_getItem_str_slice (l := none) (u := none) (st := some (-1, tk)) ⟨_, Heap.get?_push_size _ rfl, rfl, rfl⟩ rfl ?_
    show Made.post (if ((-1 : Int) == 1 && (Builtin.Str.strSliceIndices none none (-1) z.length).length == z.length) = true then Made.val (.str z t)
      else Made.str ⟨((Builtin.Str.strSliceIndices none none (-1) z.length).filterMap (z.cps[·]?)).toArray⟩) (EP X pins σ Q) _
    rw [if_neg (by simp), rev_signs]
    have hl : (⟨((List.range z.length).map fun k => z.cps.getD (z.length - 1 - k) 0).toArray⟩ : Str).length = z.length := by
      show Array.size _ = _
      simp
    refine ⟨by rw [hl]; exact hx, .str _, H4, I5.tok _, ⟨_, rfl⟩, q _ hl fun c hc => ?_⟩
    have hc' : c ∈ (List.range z.length).map fun k => z.cps.getD (z.length - 1 - k) 0 := by simpa using hc
    obtain ⟨k, hk, rfl⟩ := List.mem_map.mp hc'
    have hk' := List.mem_range.mp hk
    have hlt : z.length - 1 - k < z.cps.size := by show z.length - 1 - k < z.length; omega
    rw [Array.mem_toList_iff]
    simp [Array.getD, hlt]
/-- t[::-1] -/
theorem back_pick (xs : Array Value) : ((List.range xs.size).filterMap fun (m : Nat) => xs[(((xs.size : Int) - 1) + (m : Int) * (-1)).toNat]?) = xs.toList.reverse := by
  have key : ∀ k, k ≤ xs.size → ((List.range k).filterMap fun (m : Nat) => xs[(((xs.size : Int) - 1) + (m : Int) * (-1)).toNat]?) = xs.toList.reverse.take k := by
    intro k
    induction k with
    | zero => intro _; rfl
    | succ k ih =>
      intro hk
      rw [List.range_succ, List.filterMap_append, ih (by omega), List.take_add_one]
      congr 1
      have e : (((xs.size : Int) - 1) + (k : Int) * (-1)).toNat = xs.size - 1 - k := by omega
      rw [List.filterMap_cons, e, List.filterMap_nil]
      have h1 : xs.size - 1 - k < xs.size := by omega
      have h2 : xs.toList.reverse[k]? = some xs[xs.size - 1 - k] := by
        rw [List.getElem?_reverse (by simp; omega)]
        simp
      rw [h2, Array.getElem?_eq_getElem h1]
      rfl
  rw [key xs.size (Nat.le_refl _), List.take_of_length_le (by simp)]
theorem getItem_tuple_back {prog : Program} {w : World} {A : Around} {E : Value → Shared → Prop} {s : Shared} {t sl : Addr} {items : Array Value} {i : Tok} {Q : Value → Shared → Prop} (ht : IsTup s.heap t items) (hs : s.heap.IsSliceOf sl .none .none (.int (-1) i))
    (h : Q (.ref s.heap.objs.size) { s with heap := s.heap.push { cls := .type "tuple", data := .seq items.toList.reverse.toArray } })
    (hsz : items.size ≤ sizeLine) : wpAny (model prog w) A (getItem (.ref t) (.ref sl)) Q E s := by
  have htake : sizeOk (.seq items.toList.reverse.toArray) := by
    show items.toList.reverse.toArray.size ≤ sizeLine
    simpa using hsz
  obtain ⟨os, hos, hcs, hds⟩ := id hs
  have hTs : s.TypeIs (.ref sl) "slice" := ⟨os, hos, hcs⟩
  unfold getItem
  try with_reducible refine wpAny_holding ?_
  first | refine wpAny_bind (wpAny_pure ?_) | skip
  refine wpAny_bind (wpAny_sequenceKey ht.typeIs (by decide) ?_)
  refine wpAny_bind (wpAny_callSpecial?_slot (name := Str.ofString "__getitem__") ht.typeIs PyProof.Rows.slot_tuple_getitem
    (wpAny_call_entry PyProof.Rows.slot_tuple_getitem ht.typeIs entry_tuple_getitem ?_ (args_tuple_getitem _ _)))
  show wpAny _ _ (Builtin.Tuple.tupleItemsOf (.ref t) >>= _) _ _ s
  refine wpAny_bind (tupleItemsOf_ ht ?_)
  refine wpAny_bind (wpAny_typeOf hTs ?_)
  rw [if_pos (by decide)]
  have app : ∀ {Q' : Int × Int × Nat → Shared → Prop}, Q' ((items.size : Int) - 1, -1, items.size) s → wpAny (model prog w) A.in1 (Builtin.Slice.sliceApplied (.ref sl) (pure (items.size : Int))) Q' E s := fun {Q'} q => by
    unfold Builtin.Slice.sliceApplied Builtin.Slice.sliceFields
    refine wpAny_bind (wpAny_bind (wpAny_field hos hds (x := .none) rfl (wpAny_bind (wpAny_field hos hds (x := .none) rfl (wpAny_bind (wpAny_field hos hds (x := .int (-1) i) rfl (wpAny_pure ?_)))))))
    refine wpAny_bind (slicePart_int ?_)
    show wpAny _ _ (if ((-1 : Int) == 0) = true then _ else _) _ _ s
    rw [if_neg (by decide)]
    refine wpAny_bind (slicePart_none (wpAny_bind (slicePart_none (wpAny_bind (wpAny_pure ?_)))))
    have e1 : Builtin.Slice.sliceAdjust none none (-1) (items.size : Int) = ((items.size : Int) - 1, -1) := by
      unfold Builtin.Slice.sliceAdjust
      rfl
    have e2 : Builtin.Slice.slicePlaces ((items.size : Int) - 1) (-1) (-1) = items.size := by
      unfold Builtin.Slice.slicePlaces
      simp
      try omega
    show wpAny _ _ (match Builtin.Slice.sliceAdjust none none (-1) (items.size : Int) with | (lo, hi) => pure (lo, (-1 : Int), Builtin.Slice.slicePlaces lo hi (-1))) _ _ s
    rw [e1]
    show wpAny _ _ (pure ((items.size : Int) - 1, (-1 : Int), Builtin.Slice.slicePlaces ((items.size : Int) - 1) (-1) (-1))) _ _ s
    rw [e2]
    exact wpAny_pure q
  refine wpAny_bind (app ?_)
  show wpAny _ _ (if ((((items.size : Int) - 1) == 0 && (-1 : Int) == 1 && items.size == items.size)) = true then _ else _) _ _ s
  rw [if_neg (by simp), back_pick]
  first
    | exact wpAny_bind (m := Builtin.Tuple.tupleExact _) (wpAny_newObj_type (wpAny_pure ⟨_, rfl, wpAny_pure h⟩) htake)
    | exact wpAny_bind (m := Builtin.Tuple.tupleExact _) (wpAny_newObj_type (wpAny_bind (wpAny_pure (wpAny_pure ⟨_, rfl, wpAny_pure h⟩))) htake)
    | exact wpAny_bind (wpAny_bind (m := Builtin.Tuple.tupleExact _) (wpAny_newObj_type (wpAny_pure (wpAny_pure ⟨_, rfl, wpAny_pure h⟩)) htake))
    | exact wpAny_bind (wpAny_bind (m := Builtin.Tuple.tupleExact _) (wpAny_newObj_type (wpAny_pure ⟨_, rfl, wpAny_pure h⟩) htake))
def tRevT (K : PySem.W.Frag) (te : TE) : TE := fun σ H Q => te σ H fun x H1 => ∃ a xs, x = .ref a ∧ SqT K H1 a xs ∧ ∀ p H', Same H1 H' → H1 p = none → H' p = some (.tup xs.reverse) → Q (.ref p) H'
theorem pe_revT {e : Expr} {te : TE} {k : Nat} {p1 p2 p3 pos : Pos} (he : PE X e te) : PE X (.Subscript e (.Slice none none (some (.UnaryOp .USub (.Constant (.int 1) k p1) p2)) p3) pos) (tRevT X.K te) := by
  refine ⟨fun pins s σ H Q I h => ?_⟩
  refine Subscript_ (thn (he.run pins s σ H _ I h) fun v s1 ⟨x, H1, I1, r1, q1⟩ => ?_)
  obtain ⟨a, xs, ex, hx, q⟩ := q1
  subst ex
  cases r1
  have hst : PO X (some (.UnaryOp .USub (.Constant (.int 1) k p1) p2)) (tPart (tUn (rU fun i => .int (-i)) (tC (.int 1)))) := po_some (pe_un un_neg pe_int)
  refine wpAny_Slice (thn (po_none.run pins s1 σ H1 (fun o H2 => o = none ∧ H2 = H1) I1 ⟨rfl, rfl⟩) fun vl s2 ⟨l, H2, I2, pl, el, e2⟩ => ?_)
  subst el e2
  refine thn (po_none.run pins s2 σ H2 (fun o H3 => o = none ∧ H3 = H2) I2 ⟨rfl, rfl⟩) fun vu s3 ⟨u, H3, I3, pu, eu, e3⟩ => ?_
  subst eu e3
  refine thn (hst.run pins s3 σ H3 (fun o H4 => o = some (-1) ∧ H4 = H3) I3 ⟨1, rfl, -1, rfl, rfl, rfl⟩) fun vs s4 ⟨o, H4, I4, ps, eo, e4⟩ => ?_
  subst eo e4
  have I5 : Inv X pins σ H4 { s4 with heap := s4.heap.push { cls := .type "slice", data := .fields #[vl, vu, vs] } } := I4.kept (t' := s4.toks) fun b ob q => Heap.get?_push_of_some _ q
  obtain ⟨its, r, ht, hz⟩ := I5.tuple hx
  have hlen := r.length
  show wpAny (model X.prog X.w) X.A (subscriptTail e (.Slice none none (some (.UnaryOp .USub (.Constant (.int 1) k p1) p2)) p3) (.ref a) (.ref s4.heap.objs.size)) (EP X pins σ Q) X.xe { s4 with heap := s4.heap.push { cls := .type "slice", data := .fields #[vl, vu, vs] } }
  cases pl
  cases pu
  cases ps with
  | int i tk =>
    refine tail_any (ops := [.ref a, .ref s4.heap.objs.size]) ht.typeIs (PyProof.Rows.slot_tuple_getitem.lookup) ?_ (by with_unfolding_all rfl)
    refine getItem_tuple_back ht (Heap.IsSliceOf.new _ _ _ _) ?_ (by rw [List.size_toArray]; omega)
    have hf := I5.hok.fresh (Nat.le_refl _)
    refine ⟨.ref _, _, I5.laid (t' := s4.toks) (o := .tup xs.reverse) (fun b ob q => Heap.get?_push_of_some _ q) (Nat.le_refl _) ?_, rfl, q _ _ ((Same.refl _).new hf) hf upd_same⟩
    exact ⟨by rw [List.length_reverse]; exact hz, _, r.reverse, IsTup.new _ _⟩
/-- str(x), x an int or a bool -/
def rStrN : List V → Hp → VK → Prop := fun xs H Q => ∃ (x : V) (a : Int), xs = [x] ∧ numV x = some a ∧ a.natAbs.log2 < 1920 ∧ (∀ i : Int, x = .int i → Q (.str (toString i)) H) ∧ (∀ b : Bool, x = .bl b → Q (.str (if b = true then "True" else "False")) H)
theorem call_strN : CallR X (.type "str") rStrN := by
  intro pins s σ H xs us Q I r h
  obtain ⟨x, a, rfl, e, hl, k1, k2⟩ := h
  cases x with
  | int i =>
    cases e
    exact call_str_int pins s σ H _ us Q I r ⟨_, rfl, hl, k1 _ rfl⟩
  | bl b =>
    obtain ⟨u, rfl, ru⟩ := vals1 r
    cases ru
    exact PySem.P.str_of_bool ⟨.str _, H, I.tok _, ⟨_, rfl⟩, k2 b rfl⟩
  | _ => cases e
/-- upper of plain signs: as many plain signs -/
def rUpA : V → List V → Hp → VK → Prop := fun x xs H Q => ∃ a : Str, x = .str a ∧ xs = [] ∧ a.length ≤ 100000 ∧ (∀ c ∈ a.cps.toList, c < 128) ∧ ∀ y : Str, y.length = a.length → (∀ c ∈ y.cps.toList, c < 128) → Q (.str y) H
theorem mt_upA : MtR X "str.upper" rUpA := by
  intro pins s σ H x xs v us Q I rx rs h
  obtain ⟨a, e1, e2, hl, ha, q⟩ := h
  refine mt_upper pins s σ H x xs v us Q I rx rs ⟨a, e1, e2, by omega, ?_⟩
  rw [upper_ascii ha]
  refine q _ ?_ fun c hc => ?_
  · show Array.size _ = Array.size _
    simp
  · have hc' : c ∈ a.cps.toList.map up1 := by simpa using hc
    obtain ⟨c0, h0, rfl⟩ := List.mem_map.mp hc'
    have := ha c0 h0
    unfold up1
    split <;> omega
end
end L2

set_option Elab.async false
set_option linter.all false
set_option maxRecDepth 100000
set_option maxHeartbeats 4000000
/-! Data of moderate size, bent. -/
namespace L2
open PySem PySem.Spec PyProof.Rows PySem.KX
section
variable {X : Cx}
/-- list(t), a new list not at the place of sys.modules -/
def rLstN (K : PySem.W.Frag) : List V → Hp → VK → Prop := fun vs H Q => ∃ (t : Addr) (ys : List V), vs = [.ref t] ∧ SqT K H t ys ∧ ∀ p H', (p == sysModules) = false → Same H H' → H p = none → H' p = some (.lst ys) → Q (.ref p) H'
theorem call_lstN : CallR X (.type "list") (rLstN X.K) := by
  intro pins s σ H xs us Q I r h
  obtain ⟨p, ys, rfl, hq, q⟩ := h
  obtain ⟨u, rfl, rx⟩ := vals1 r
  cases rx
  obtain ⟨its, r', pl, hz⟩ := I.tuple hq
  have hlen := r'.length
  obtain ⟨o, ho, hc, n, hd⟩ := pl
  have hf : H s.heap.objs.size = none := I.hok.fresh (Nat.le_refl _)
  refine call_list_seq p (.inr rfl) ho hc hd (fun h' c' kp e => ?_) (by simp only [List.size_toArray] <;> omega)
  have nb : (s.heap.objs.size == sysModules) = false := beq_eq_false_iff_ne.mpr (Nat.ne_of_gt I.big)
  have ob : ObjOk X.prog X.w (upd H s.heap.objs.size (.lst ys)) h' s.heap.objs.size (.lst ys) := ⟨hz, its, c', r', e⟩
  exact ⟨.ref s.heap.objs.size, _, I.laid (t' := s.toks) kp (Nat.le_refl _) ob, rfl, q _ _ nb ((Same.refl _).new hf) hf upd_same⟩
end
/-- a tuple is not the list at p -/
theorem sqT_hide {K : PySem.W.Frag} {H : Hp} {p r : Addr} {xs ys : List V} (h : SqT K H r ys) (hp : H p = some (.lst xs)) : SqT K (hide [p] H) r ys := by
  rcases h with (h | ⟨o, h⟩) | h
  · refine .inl (.inl ?_)
    rw [hide_in (fun z => by rw [List.mem_singleton.mp z, hp] at h; cases h)]
    exact h
  · refine .inl (.inr ⟨o, ?_⟩)
    rw [hide_in (fun z => by rw [List.mem_singleton.mp z, hp] at h; cases h)]
    exact h
  · exact .inr h
section
variable {K : PySem.W.Frag} {H : Hp}
theorem DnAll.length : ∀ {vs : List V} {ds : List PyData}, DnAll K H vs ds → vs.length = ds.length
  | _, _, .nil => rfl
  | _, _, .cons _ t => by simp [DnAll.length t]
theorem DnAll.get : ∀ {vs : List V} {ds : List PyData} {i : Nat} {v : V}, DnAll K H vs ds → vs[i]? = some v → ∃ d, ds[i]? = some d ∧ Dn K H v d
  | _, _, i, v, .nil, e => by simp at e
  | _, _, 0, v, .cons h _, e => by
    simp at e
    subst e
    exact ⟨_, rfl, h⟩
  | _, _, i + 1, v, .cons _ t, e => by
    obtain ⟨d, h1, h2⟩ := DnAll.get (i := i) (v := v) t (by simpa using e)
    exact ⟨d, by simpa using h1, h2⟩
theorem DnAll.append : ∀ {vs us : List V} {ds es : List PyData}, DnAll K H vs ds → DnAll K H us es → DnAll K H (vs ++ us) (ds ++ es)
  | _, _, _, _, .nil, h => h
  | _, _, _, _, .cons h t, k => .cons h (DnAll.append t k)
theorem DnAll.take : ∀ {vs : List V} {ds : List PyData} (n : Nat), DnAll K H vs ds → DnAll K H (vs.take n) (ds.take n)
  | _, _, 0, _ => by simpa using DnAll.nil
  | _, _, n + 1, .nil => by simpa using DnAll.nil
  | _, _, n + 1, .cons h t => .cons h (DnAll.take n t)
theorem DnAll.drop : ∀ {vs : List V} {ds : List PyData} (n : Nat), DnAll K H vs ds → DnAll K H (vs.drop n) (ds.drop n)
  | _, _, 0, h => by simpa using h
  | _, _, n + 1, .nil => by simpa using DnAll.nil
  | _, _, n + 1, .cons _ t => DnAll.drop n t
theorem DnAll.reverse : ∀ {vs : List V} {ds : List PyData}, DnAll K H vs ds → DnAll K H vs.reverse ds.reverse
  | _, _, .nil => .nil
  | _, _, .cons h t => by
    rw [List.reverse_cons, List.reverse_cons]
    exact DnAll.append (DnAll.reverse t) (.cons h .nil)
end
theorem cutV_to (xs : List V) (k : Nat) : cutV xs none (some (k : Int)) = xs.take k := by
  unfold cutV
  rw [HT.sIx_none, HT.sIx_nat, List.drop_zero, Nat.sub_zero]
  exact List.take_eq_take_iff.mpr (by omega)
theorem cutV_from (xs : List V) (k : Nat) : cutV xs (some (k : Int)) none = xs.drop k := by
  unfold cutV
  rw [HT.sIx_none, HT.sIx_nat, List.take_of_length_le (by simp)]
  by_cases h : k ≤ xs.length
  · rw [Nat.min_eq_left h]
  · rw [Nat.min_eq_right (by omega), List.drop_length, List.drop_of_length_le (by omega)]
theorem cutV_init (xs : List V) : cutV xs none (some (-1)) = xs.take (xs.length - 1) := by
  unfold cutV
  have e : HT.sIx xs.length xs.length (some (-1)) = xs.length - 1 := by
    unfold HT.sIx
    dsimp only
    rw [if_pos (show (-1 : Int) < 0 by decide)]
    omega
  rw [HT.sIx_none, e, List.drop_zero, Nat.sub_zero]
/-- 10 ** 30 -/
def bigN : Nat := 10 ^ 30
mutual
/-- moderate after k bends -/
def okB (k : Nat) : PyData → Bool
  | .none => true
  | .bool _ => true
  | .int i => decide (i.natAbs ≤ (k + 1) * bigN)
  | .str x => decide (x.length ≤ 40 * (k + 1)) && x.cps.toList.all fun c => decide (c < 128)
  | .list xs => decide (xs.length ≤ 50 + k) && okBAll k xs
  | .tuple xs => decide (xs.length ≤ 50 + k) && okBAll k xs
  | .dict [] => true
  | .dict _ => false
def okBAll (k : Nat) : List PyData → Bool
  | [] => true
  | x :: xs => okB k x && okBAll k xs
end
theorem okBAll_iff {k : Nat} : ∀ {ds : List PyData}, okBAll k ds = true ↔ ∀ d ∈ ds, okB k d = true
  | [] => by simp [okBAll]
  | x :: r => by simp [okBAll, okBAll_iff (ds := r)]
mutual
theorem okB_up {k : Nat} : ∀ d : PyData, okB k d = true → okB (k + 1) d = true
  | .none, _ => by simp [okB]
  | .bool _, _ => by simp [okB]
  | .int i, h => by
    simp only [okB, decide_eq_true_eq] at h ⊢
    exact Nat.le_trans h (Nat.mul_le_mul_right _ (by omega))
  | .str x, h => by
    simp only [okB, Bool.and_eq_true, decide_eq_true_eq] at h ⊢
    exact ⟨by omega, h.2⟩
  | .list xs, h => by
    simp only [okB, Bool.and_eq_true, decide_eq_true_eq] at h ⊢
    exact ⟨by omega, okBAll_up xs h.2⟩
  | .tuple xs, h => by
    simp only [okB, Bool.and_eq_true, decide_eq_true_eq] at h ⊢
    exact ⟨by omega, okBAll_up xs h.2⟩
  | .dict [], _ => by simp [okB]
  | .dict (_ :: _), h => by simp [okB] at h
theorem okBAll_up {k : Nat} : ∀ ds : List PyData, okBAll k ds = true → okBAll (k + 1) ds = true
  | [], _ => by simp [okBAll]
  | x :: r, h => by
    simp only [okBAll, Bool.and_eq_true] at h ⊢
    exact ⟨okB_up x h.1, okBAll_up r h.2⟩
end
structure Md (k W D : Nat) (d : PyData) : Prop where
  ok : okB k d = true
  wt : d.weight ≤ W
  dp : d.depth ≤ D
theorem weight_app : ∀ as bs : List PyData, PyData.weightAll (as ++ bs) = PyData.weightAll as + PyData.weightAll bs
  | [], bs => by simp [PyData.weightAll]
  | a :: as, bs => by
    simp only [List.cons_append, PyData.weightAll, weight_app as bs]
    omega
theorem weight_cut (n : Nat) (as : List PyData) : PyData.weightAll (as.take n) + PyData.weightAll (as.drop n) = PyData.weightAll as := by
  rw [← weight_app, List.take_append_drop]
theorem weight_rev : ∀ as : List PyData, PyData.weightAll as.reverse = PyData.weightAll as
  | [] => rfl
  | a :: as => by
    rw [List.reverse_cons, weight_app, weight_rev as]
    simp only [PyData.weightAll]
    omega
theorem weight_mem {d : PyData} : ∀ {ds : List PyData}, d ∈ ds → d.weight + 1 ≤ PyData.weightAll ds
  | x :: r, h => by
    simp only [PyData.weightAll]
    rcases List.mem_cons.mp h with z | z
    · subst z
      omega
    · have := weight_mem z
      omega
theorem depth_le {M : Nat} : ∀ {ds : List PyData}, (∀ d ∈ ds, d.depth ≤ M) → PyData.depthAll ds ≤ M
  | [], _ => by simp [PyData.depthAll]
  | x :: r, h => by
    have h1 := h x List.mem_cons_self
    have h2 := depth_le fun d hd => h d (List.mem_cons_of_mem x hd)
    simp only [PyData.depthAll]
    omega
theorem depth_mem_le {d : PyData} : ∀ {ds : List PyData}, d ∈ ds → d.depth ≤ PyData.depthAll ds
  | x :: r, h => by
    simp only [PyData.depthAll]
    rcases List.mem_cons.mp h with z | z
    · subst z
      omega
    · have := depth_mem_le z
      omega
/-- a tuple of parts -/
theorem Md.tup {k W D : Nat} {ds : List PyData} (h1 : ds.length ≤ 50 + k) (h2 : ∀ d ∈ ds, okB k d = true) (h3 : PyData.weightAll ds ≤ W) (h4 : ∀ d ∈ ds, d.depth + 1 ≤ D) (h5 : 1 ≤ D) : Md k W D (.tuple ds) := by
  refine ⟨?_, h3, ?_⟩
  · simp only [okB, Bool.and_eq_true, decide_eq_true_eq]
    exact ⟨h1, okBAll_iff.mpr h2⟩
  · have := depth_le (M := D - 1) (ds := ds) fun d hd => by have := h4 d hd; omega
    simp only [PyData.depth]
    omega
theorem Md.lst {k W D : Nat} {ds : List PyData} (h1 : ds.length ≤ 50 + k) (h2 : ∀ d ∈ ds, okB k d = true) (h3 : PyData.weightAll ds ≤ W) (h4 : ∀ d ∈ ds, d.depth + 1 ≤ D) (h5 : 1 ≤ D) : Md k W D (.list ds) := by
  obtain ⟨a, b, c⟩ := Md.tup h1 h2 h3 h4 h5
  exact ⟨by simpa only [okB] using a, b, by simpa only [PyData.depth] using c⟩
theorem Md.parts {k W D : Nat} {ds : List PyData} (h : Md k W D (.tuple ds)) : ds.length ≤ 50 + k ∧ (∀ d ∈ ds, okB k d = true) ∧ PyData.weightAll ds ≤ W ∧ (∀ d ∈ ds, d.depth + 1 ≤ D) ∧ 1 ≤ D := by
  obtain ⟨a, b, c⟩ := h
  simp only [okB, Bool.and_eq_true, decide_eq_true_eq] at a
  simp only [PyData.depth] at c
  exact ⟨a.1, okBAll_iff.mp a.2, b, fun d hd => by have := depth_mem_le hd; omega, by omega⟩
theorem Md.mono {k W W' D D' : Nat} {d : PyData} (h : Md k W D d) (h1 : W ≤ W') (h2 : D ≤ D') : Md k W' D' d := ⟨h.ok, Nat.le_trans h.wt h1, Nat.le_trans h.dp h2⟩
theorem Md.up {k W D : Nat} {d : PyData} (h : Md k W D d) : Md (k + 1) W D d := ⟨okB_up _ h.ok, h.wt, h.dp⟩
mutual
theorem okB_sm {k : Nat} (hk : k ≤ 8) : ∀ d : PyData, okB k d = true → smQ d = true ∧ sm60 d = true ∧ d.showable = true ∧ PyData.leavesShort 64 d = true
  | .none, _ => by simp [smQ, sm60, PyData.showable, PyData.leavesShort]
  | .bool _, _ => by simp [smQ, sm60, PyData.showable, PyData.leavesShort]
  | .int i, h => by
    simp only [okB, decide_eq_true_eq] at h
    have h2 : i.natAbs < 10 ^ 31 := Nat.lt_of_le_of_lt (Nat.le_trans h (Nat.mul_le_mul_right bigN (show k + 1 ≤ 9 by omega))) (by decide +kernel)
    refine ⟨by simp [smQ], by simp [sm60], ?_, ?_⟩
    · simp only [PyData.showable, decide_eq_true_eq]
      have : i.natAbs < 2 ^ 1920 := Nat.lt_of_lt_of_le h2 (by decide +kernel)
      by_cases h0 : i.natAbs = 0
      · rw [h0]; decide +kernel
      · exact (Nat.log2_lt h0).mpr this
    · simp only [PyData.leavesShort, decide_eq_true_eq]
      have e := int_text_length_le10 (k := 31) (by decide) h2
      show (Str.ofString (toString i)).length ≤ 64
      rw [PySem.ofString_length]
      omega
  | .str x, h => by
    simp only [okB, Bool.and_eq_true, decide_eq_true_eq] at h
    refine ⟨by simp only [smQ, decide_eq_true_eq]; omega, by simp [sm60], by simp [PyData.showable], ?_⟩
    simp only [PyData.leavesShort]
    refine List.all_eq_true.mpr fun c hc => ?_
    have := of_decide_eq_true (List.all_eq_true.mp h.2 c hc)
    exact decide_eq_true (by omega)
  | .list xs, h => by
    simp only [okB, Bool.and_eq_true, decide_eq_true_eq] at h
    obtain ⟨a, b, c, d⟩ := okBAll_sm hk xs h.2
    refine ⟨by simp only [smQ, a, Bool.and_true, decide_eq_true_eq]; omega, by simp only [sm60, b, Bool.and_true, decide_eq_true_eq]; omega, by simpa only [PyData.showable] using c, by simpa only [PyData.leavesShort] using d⟩
  | .tuple xs, h => by
    simp only [okB, Bool.and_eq_true, decide_eq_true_eq] at h
    obtain ⟨a, b, c, d⟩ := okBAll_sm hk xs h.2
    refine ⟨by simp only [smQ, a, Bool.and_true, decide_eq_true_eq]; omega, by simp only [sm60, b, Bool.and_true, decide_eq_true_eq]; omega, by simpa only [PyData.showable] using c, by simpa only [PyData.leavesShort] using d⟩
  | .dict [], _ => by simp [smQ, sm60, PyData.showable, PyData.leavesShort, PyData.showableKv, PyData.leavesShortKv]
  | .dict (_ :: _), h => by simp [okB] at h
theorem okBAll_sm {k : Nat} (hk : k ≤ 8) : ∀ ds : List PyData, okBAll k ds = true → smQAll ds = true ∧ sm60.sm60All ds = true ∧ PyData.showableAll ds = true ∧ PyData.leavesShortAll 64 ds = true
  | [], _ => by simp [smQAll, sm60.sm60All, PyData.showableAll, PyData.leavesShortAll]
  | x :: r, h => by
    simp only [okBAll, Bool.and_eq_true] at h
    obtain ⟨a, b, c, d⟩ := okB_sm hk x h.1
    obtain ⟨a', b', c', d'⟩ := okBAll_sm hk r h.2
    simp only [smQAll, sm60.sm60All, PyData.showableAll, PyData.leavesShortAll, a, b, c, d, a', b', c', d', Bool.and_self, and_self]
end
theorem Md.shown {k W D : Nat} {d : PyData} (h : Md k W D d) (hk : k ≤ 8) (hW : W ≤ 200000) : d.shown.length ≤ sizeLine := by
  have h1 := PyData.shown_le 64 (by decide) d (okB_sm hk d h.ok).2.2.2
  have := h.wt
  rw [sizeLine_eq]
  omega
end L2

set_option Elab.async false
set_option linter.all false
set_option maxRecDepth 100000
set_option maxHeartbeats 4000000
/-! anything in a list of texts; a def held by a variable; a list several times. -/
namespace L2
open PySem PySem.Spec PyProof.Rows PySem.KX SeqAt
theorem eqAt_strRef {A : Around} {s : Shared} {a : Str} {t : Tok} {p : Addr} {k : Bool} (h : RcAt A s (.str a t) (.ref p) k) : EqAt A s (.str a t) (.ref p) k := fun prog w E Q hq => by
  unfold eqBool
  refine wpAny_holding ?_
  refine wpAny_ite_split (fun hab => absurd (eq_of_beq hab) (fun z => nomatch z)) (fun _ => ?_)
  exact wpAny_bind (h prog w E _ (wpAny_truthy_bool hq))
def isStrU (d : PyData) : Value → Bool
  | .str a _ => isStrD a d
  | _ => false
def rNotInW (K : PySem.W.Frag) : R2 := fun x y H Q => ∃ (p : Addr) (ws : List Str) (d : PyData), y = .ref p ∧ SqL K H p (ws.map V.str) ∧ Dq K H x d ∧ Q (.bl (!ws.any fun a => isStrD a d)) H
theorem any_isStrU {d : PyData} : ∀ {ws : List Str} {us : List Value}, Vals (ws.map V.str) us → us.any (isStrU d) = ws.any fun a => isStrD a d
  | [], _, .nil => rfl
  | a :: ws, _, .cons r t => by
    obtain ⟨k, rfl⟩ := r
    rw [List.any_cons, List.any_cons, any_isStrU t]
    rfl
theorem mem_strs : ∀ {ws : List Str} {us : List Value}, Vals (ws.map V.str) us → ∀ u ∈ us, ∃ a t, u = .str a t
  | [], _, .nil => fun u hu => by cases hu
  | a :: ws, _, .cons r t => fun u' hu => by
    rcases List.mem_cons.mp hu with rfl | hu
    · obtain ⟨k, rfl⟩ := r
      exact ⟨a, k, rfl⟩
    · exact mem_strs t u' hu
theorem op_notInW {X : Cx} (hu : X.A.units + 64 < cLine) : OpR X (compareOp .NotIn) (rNotInW X.K) := by
  intro pins s σ H x y v u Q I rx ry h
  obtain ⟨p, ws, d, rfl, hq, hd, q⟩ := h
  cases ry
  obtain ⟨its, r, pl, hz⟩ := I.list hq
  have hu1 : X.A.units < cLine := by omega
  have hu2 : X.A.in1.units < cLine := by
    show X.A.units + 1 < cLine
    omega
  have key : ∀ (a : Str) (t : Tok) (A : Around), A.units < cLine → EqAt A s (.str a t) v (isStrD a d) := fun a t A hA => by
    cases hd with
    | non => cases rx; exact .str_none a t
    | bl b => cases rx; exact .str_bool a t b
    | int i => obtain ⟨t2, rfl⟩ := rx; exact .str_int a t i t2
    | str x => obtain ⟨t2, rfl⟩ := rx; exact .str_str a t x t2
    | lst hs ha =>
      cases rx
      obtain ⟨its, rv, ⟨o, n, ho, hc, _, hd⟩, _⟩ := I.list hs
      exact .str_list a t ⟨o, ho, hc, n, hd⟩ hA
    | tup hs ha =>
      cases rx
      obtain ⟨its, rv, ⟨o, ho, hc, n, hd⟩, _⟩ := I.tuple hs
      exact .str_tuple a t ⟨o, ho, hc, n, hd⟩ hA
    | emp e =>
      cases rx
      obtain ⟨hz, hsm, vs, rel, o, es, ep, ho, hx, hd, hk, hp, _⟩ := dk_of I.hok e
      exact eqAt_strRef (rcStrDict a t ho hx.1 hd hA)
  refine SeqAt.notIn_listAt (isStrU d) pl.isList (fun w hw => ?_) ⟨.bl _, H, I, rfl, ?_⟩
  · obtain ⟨a, t, rfl⟩ := mem_strs r w (by simpa using hw)
    exact key a t _ (by first | exact hu1 | exact hu2)
  · rw [show its.toArray.any (isStrU d) = its.any (isStrU d) by simp, any_isStrU r]
    exact q
/-- a list several times -/
def rRepS : R2 := fun x y H Q => ∃ l k xs, x = .ref l ∧ y = .int k ∧ H l = some (.lst xs) ∧ 0 ≤ k ∧ k ≤ 1000 ∧ xs.length ≤ 1000 ∧ ∀ p H', Same H H' → H p = none → H' p = some (.lst (List.replicate k.toNat xs).flatten) → Q (.ref p) H'
theorem op_repS {X : Cx} : OpR X (binaryOp .Mult) rRepS := op_rep.imp fun x y H Q ⟨l, k, xs, e1, e2, h1, h2, h3, h4, q⟩ => by
  refine ⟨l, k, xs, e1, e2, h1, by omega, by omega, ?_, fun p n => q p _ ((Same.refl _).new n) n upd_same⟩
  have h5 : k.toNat ≤ 1000 := by omega
  have := Nat.mul_le_mul h4 h5
  rw [sizeLine_eq]
  omega
section
variable {X : Cx} {k i : Nat} {f1 f2 : Addr} {fd1 fd2 : FuncData} {ps : List Str} {sp1 sp2 : Sp} {CX : CXT} {x : Str} {p pos : Pos} {e : Expr} {es : List Expr} {t : TA} {E : XK}
/-- one of two defs, held by a variable -/
theorem pe_callV (F1 : FnG X.prog X.w X.K X.mg X.base CX k f1 fd1 ps sp1) (F2 : FnG X.prog X.w X.K X.mg X.base CX k f2 fd2 ps sp2) (hr : RoomG k X.A) (hN : X.N[i]? = some x) (hv : Vis X.env.scope x)
    (hk1 : PySem.W.keepIn X.K (.ref f1) = true) (hk2 : PySem.W.keepIn X.K (.ref f2) = true) (hb1 : Binds X.K fd1 ps []) (hb2 : Binds X.K fd2 ps []) (hx : Passes CX X E) (ha : PA X (e :: es) t) (hd : (x == ("__debug__" : Str)) = false := by decide) (hcd : (x == ("__classdict__" : Str)) = false := by decide)
    (he : starEach (e :: es) X.env = (false, eval e X.env) :: starEach es X.env := by rfl) (hpl : (backTo pos (starEach es X.env)).any (·.1) = false := by rfl) :
    PE X (.Call (.Name x p) (e :: es) [] pos) (fun σ H Q => (σ[i]? = some (some (.ref f1)) ∧ tCall sp1 [] E t σ H Q) ∨ (σ[i]? = some (some (.ref f2)) ∧ tCall sp2 [] E t σ H Q)) := by
  have go : ∀ {f : Addr} {fd : FuncData} {sp : Sp}, FnG X.prog X.w X.K X.mg X.base CX k f fd ps sp → PySem.W.keepIn X.K (.ref f) = true → Binds X.K fd ps [] → PE X (.Call (.Name x p) (e :: es) [] pos) (fun σ H Q => σ[i]? = some (some (.ref f)) ∧ tCall sp [] E t σ H Q) := fun {f fd sp} F hk hb => by
    refine ⟨fun pins s σ H Q I h => ?_⟩
    obtain ⟨hs, h⟩ := h
    refine wpAny_Call_Name_kw (thn ((pe_var (pos := p) (i := i) hN hv hd hcd).run pins s σ H (fun v H1 => v = .ref f ∧ H1 = H) I ⟨.ref f, hs, rfl, rfl⟩) fun u s1 ⟨v, H1, I1, r1, q1⟩ => ?_)
    obtain ⟨ev, eH⟩ := q1
    subst ev
    rw [eH] at I1
    obtain rfl : u = Value.ref f := r1
    refine PySem.W.callWith_K (h₀ := X.base) I1.ok.mod.kin hk (thn (ha.run pos pins s1 σ H _ I1 h) fun us s2 ⟨vs, H2, I2, r, q⟩ => ⟨I2.kIn, ?_⟩) he hpl
    exact run_fnG F hr hb .nil hx I2 r q
  refine ⟨fun pins s σ H Q I h => ?_⟩
  rcases h with h | h
  · exact (go F1 hk1 hb1).run pins s σ H Q I h
  · exact (go F2 hk2 hb2).run pins s σ H Q I h
end
end L2

set_option Elab.async false
set_option linter.all false
set_option maxRecDepth 100000
set_option maxHeartbeats 4000000
/-! A list that is laid aside while an expression runs. -/
namespace L2
open PySem PySem.Spec PyProof.Rows PySem.KX
section
variable {X : Cx} {pins : List (Addr × Obj)} {σ : St} {H H' : Hp} {s s' : Shared} {D : Addr} {xs : List V} {o : Obj}
theorem hide1_ne {b : Addr} (h : b ≠ D) : hide [D] H b = H b := hide_in fun z => h (List.mem_singleton.mp z)
theorem hide1_at : hide [D] H D = none := by
  unfold hide
  rw [if_pos (List.mem_singleton.mpr rfl)]
/-- the list becomes a pin -/
theorem Inv.aside (I : Inv X pins σ H s) (hD : H D = some (.lst xs)) : ∃ (its : List Value) (n : Nat), Vals xs its ∧ xs.length ≤ sizeLine ∧ Inv X ((D, { cls := .type "list", data := .seq its.toArray n }) :: pins) σ (hide [D] H) s := by
  obtain ⟨hz, its, n, r, _, e⟩ := I.lstM hD
  refine ⟨its, n, r, hz, ?_⟩
  have sub : ∀ {b : Addr} {u : HO}, hide [D] H b = some u → b ≠ D ∧ H b = some u := fun {b u} q => by
    by_cases hb : b = D
    · rw [hb, hide1_at] at q; cases q
    · rw [hide1_ne hb] at q; exact ⟨hb, q⟩
  have non : ∀ {b : Addr}, H b = none → hide [D] H b = none := fun {b} q => by
    by_cases hb : b = D
    · rw [hb]; exact hide1_at
    · rw [hide1_ne hb]; exact q
  have big : ∀ {b : Addr} {u : HO}, H b = some u → (∀ ys, u ≠ .lst ys) → hide [D] H b = some u := fun {b u} q n => by
    by_cases hb : b = D
    · rw [hb, hD] at q; cases q; exact absurd rfl (n xs)
    · rw [hide1_ne hb]; exact q
  have nf : D ∉ X.fs := fun hm => by
    obtain ⟨_, ob, ho, _⟩ := I.ok.funs.mem hm
    have := I.base.free D ob ho (I.ok.frf D hm) fun z => I.ok.exfs D z hm
    rw [hD] at this
    cases this
  refine ⟨I.ok, I.os, I.bare, ⟨I.base.keep, I.base.slot, fun b ob q z hx => non (I.base.free b ob q z hx), I.base.there, fun b ys q => big (I.base.tups b ys q) (fun _ z => by cases z), fun b ob u q => big (I.base.frzs b ob u q) (fun _ z => by cases z), fun b ps q => ?_⟩, I.loc, I.cell, non I.free, fun x c q => non (I.freeC x c q), fun p hp => ?_, fun b u q => ?_, I.len⟩
  · obtain ⟨more, q2⟩ := I.base.tbls b ps q
    exact ⟨more, big q2 (fun _ z => by cases z)⟩
  · rcases List.mem_append.mp hp with z | z
    · obtain ⟨h1, h2, h3, h4, h5⟩ := I.pin p (List.mem_append_left _ z)
      exact ⟨h1, non h2, h3, h4, h5⟩
    · rcases List.mem_cons.mp z with rfl | z
      · refine ⟨e, hide1_at, fun q => ?_, nf, (fun v q => by cases q)⟩
        have h1 : D = X.env.locals := q
        rw [h1, I.free] at hD
        cases hD
      · obtain ⟨h1, h2, h3, h4, h5⟩ := I.pin p (List.mem_append_right _ z)
        exact ⟨h1, non h2, h3, h4, h5⟩
  · obtain ⟨hb, q2⟩ := sub q
    exact (I.hok b u q2).stay (fun _ _ _ r => r) (fun c q3 => big q3 (fun _ z => by cases z)) (fun c ys q3 => big q3 (fun _ z => by cases z))
/-- and comes back -/
theorem Inv.again {its : List Value} {n : Nat} (J : Inv X ((D, { cls := .type "list", data := .seq its.toArray n }) :: pins) σ H' s') (nb : ∀ ob, X.s_0.heap.get? D = some ob → X.H_0 D = none → D ∉ X.ex → False) (np : ∀ p ∈ X.pn ++ pins, p.1 ≠ D) (r : Vals xs its) (hz : xs.length ≤ sizeLine) : Inv X pins σ (upd H' D (.lst xs)) s' := by
  obtain ⟨e, nD, nL, nF, nC⟩ := J.pin _ (List.mem_append_right _ List.mem_cons_self)
  have nD' : H' D = none := nD
  have big : ∀ {b : Addr} {u : HO}, H' b = some u → upd H' D (.lst xs) b = some u := fun {b u} q => by rw [upd_ne (ne_of_none q nD')]; exact q
  have non : ∀ {b : Addr}, b ≠ D → H' b = none → upd H' D (.lst xs) b = none := fun {b} h q => by rw [upd_ne h]; exact q
  refine ⟨J.ok, J.os, J.bare, ⟨J.base.keep, J.base.slot, fun b ob q z hx => ?_, J.base.there, fun b ys q => big (J.base.tups b ys q), fun b ob u q => big (J.base.frzs b ob u q), fun b ps q => ?_⟩, J.loc, J.cell, ?_, fun x c q => ?_, fun p hp => ?_, fun b u q => ?_, J.len⟩
  · refine non (fun y => ?_) (J.base.free b ob q z hx)
    subst y
    exact nb ob q z hx
  · obtain ⟨more, q2⟩ := J.base.tbls b ps q
    exact ⟨more, big q2⟩
  · exact non (fun y => nL y.symm) J.free
  · refine non (fun y => ?_) (J.freeC x c q)
    obtain ⟨v, ob, h1, h2⟩ := J.cell x c q
    rw [y, e] at h1
    cases h1
    cases h2
  · have hp' : p ∈ X.pn ++ ((D, { cls := .type "list", data := .seq its.toArray n }) :: pins) := by
      rcases List.mem_append.mp hp with z | z
      · exact List.mem_append_left _ z
      · exact List.mem_append_right _ (List.mem_cons_of_mem _ z)
    obtain ⟨h1, h2, h3, h4, h5⟩ := J.pin p hp'
    exact ⟨h1, non (np p hp) h2, h3, h4, h5⟩
  · by_cases hb : b = D
    · subst hb
      rw [upd_same] at q
      cases q
      exact ⟨hz, its, n, r, e⟩
    · rw [upd_ne hb] at q
      exact (J.hok b u q).stay (fun _ _ _ r => r) (fun c q3 => big q3) (fun c ys q3 => big q3)
end
section
variable {X : Cx} {k j : Nat} {f : Addr} {fd : FuncData} {ps : List Str} {sp : Sp} {CX : CXT} {x : Str} {p pos : Pos} {e : Expr} {es : List Expr} {t : TA} {E : XK}
/-- a call, a list laid aside while it runs -/
def spAs (sp : Sp) : Sp := fun vs H Q E => ∃ (D : Addr) (xs : List V), H D = some (.lst xs) ∧ sp vs (hide [D] H) (fun v H' => H' D = none → Q v (upd H' D (.lst xs))) E
def tAs (sp : Sp) (t : TA) (E : XK) : TE := fun σ H Q => t σ H fun vs H1 => spAs sp vs H1 Q E
theorem pe_callAs (F : FnG X.prog X.w X.K X.mg X.base CX k f fd ps sp) (hr : RoomG k X.A) (hg : Gl X x) (hm : X.mg x = some (.ref f)) (hk : PySem.W.keepIn X.K (.ref f) = true) (hb : Binds X.K fd ps []) (hx : Passes CX X E)
    (ha : PA X (e :: es) t) (hdb : (x == ("__debug__" : Str)) = false := by decide) (he : starEach (e :: es) X.env = (false, eval e X.env) :: starEach es X.env := by rfl) (hpl : (backTo pos (starEach es X.env)).any (·.1) = false := by rfl) :
    PE X (.Call (.Name x p) (e :: es) [] pos) (tAs sp t E) := by
  refine ⟨fun pins s σ H Q I h => ?_⟩
  refine wpAny_Call_Name_kw (ld_glob I hg hm ?_ hdb)
  refine PySem.W.callWith_K (h₀ := X.base) I.ok.mod.kin hk (thn (ha.run pos pins s σ H _ I h) fun us s1 ⟨vs, H1, I1, r, q⟩ => ⟨I1.kIn, ?_⟩) he hpl
  obtain ⟨D, xs, hD, q⟩ := q
  obtain ⟨its, n, rv, hz, J⟩ := I1.aside hD
  have q2 : sp (vs ++ []) (hide [D] H1) (fun v H' => H' D = none → Q v (upd H' D (.lst xs))) E := by rw [List.append_nil]; exact q
  refine thn (run_fnG F hr hb .nil hx J r q2) fun u s' ⟨v, H', J', rv', q'⟩ => ⟨v, _, J'.again (fun ob h1 h2 h3 => ?_) (fun p hp z => ?_) rv hz, rv', q' (J'.pin _ (List.mem_append_right _ List.mem_cons_self)).2.1⟩
  · have := I1.base.free D ob h1 h2 h3
    rw [hD] at this
    cases this
  · have := (I1.pin p hp).2.1
    rw [z, hD] at this
    cases this
theorem pe_ownAs (O : Own X.prog X.w X.K X.mg X.base CX0 x k ps sp) (hr : RoomG j X.A) (ha : PA X (e :: es) t) (hk : k ≤ j := by decide) (hg : Gl X x := by rfl) (hdb : (x == ("__debug__" : Str)) = false := by decide)
    (he : starEach (e :: es) X.env = (false, eval e X.env) :: starEach es X.env := by rfl) (hpl : (backTo pos (starEach es X.env)).any (·.1) = false := by rfl) : PE X (.Call (.Name x p) (e :: es) [] pos) (tAs sp t E0) := by
  obtain ⟨f, fd, F, hm, hkp, hb⟩ := O.ex
  exact pe_callAs F (hr.mono hk) hg hm hkp hb (fun _ _ _ _ _ _ _ z => z.elim) ha hdb he hpl
end
end L2

set_option Elab.async false
set_option linter.all false
set_option maxRecDepth 100000
set_option maxHeartbeats 4000000
/-! The end of a law with lambdas: what is known of the tables of its defs. -/
namespace LamX
open PySem PySem.Spec PyProof.Rows L2
theorem walk_ofTT {l : PySem.W.OpenLaw} {n k : Nat} {q : Program} {loose : List Str} {XP : (Str → Option Value) → Heap → Prop} {YP : World → Heap → Prop} {d : DefRec} {K : Params → PySem.W.Frag} {CX : World → CXT} {x : Str}
    (hn : l.most = some n) (hn2 : n ≤ sizeLine) (hdf : d.params.defaults = []) (hr : Room k callerA) (hY : ∀ (w : World) (h : Heap), YP w h → (K w.params).In h)
    (F : ∀ (w : World) (mg : Str → Option Value) (fa : Addr) (h : Heap), YP w h → (K w.params).In h → h.Ns mainGlobals mg → mg d.name = some (.ref fa) →
      (∀ (y : Str) (e : DefRec) (c P : Addr), (recsOf q).find? (fun e => e.name == y) = some e → PySem.W.tabIn (K w.params) y = some (c, P) → PySem.W.CodeHd h c P ∧ h.get? P = some (PySem.W.tabObj #[])) → LawAtG l w (K w.params) (CX w) k n x mg fa h)
    (hCX : ∀ (w : World) (H : Hp) (s : Shared) (e : Value) (s' : Shared), CX w [] H s (fun _ _ _ => False) e s' → False) :
    PySem.W.WalkO q loose XP YP l.row.toRowW d [] (fun f vs => PySem.call f vs) := by
  refine Att.attach_callB hn hdf fun w s₀ s₁ mg mb fa o pm cd doc a vs ns G Y ho hd hcd hmg hobj hints hlen hbits hg => ?_
  have KX := hY w _ Y
  obtain ⟨fd, cs, sp, hT, nT, C, hb, hsp, hF⟩ := F w mg fa _ Y KX G.T.g hmg fun y e c P h1 h2 => PySem.W.tab_of G.T KX h1 h2
  exact law_callTG KX G.T.g G.T.b G.T.builtins G.T.nolimit hg hT nT C G.T.bmain hobj hints (Nat.le_trans hlen hn2) hr hF hb (fun H hH hS => hsp H a ns hlen hbits hH hS) fun H e s' => hCX w H s₁ e s'
theorem tabIn_of {K : PySem.W.Frag} {x : Str} {f c P : Addr} {oc oc2 : Value} {od od2 : Option Addr} {fd : FuncData} {osl osl2 : Array (Option Value)} {vs : Array Value}
    (h1 : PySem.W.nsIn K mainGlobals x = some (some (.ref f))) (h2 : K.lookup f = some ⟨oc, od, .func fd, osl⟩) (h3 : fd.code = .ref c) (h4 : K.lookup c = some ⟨oc2, od2, .fields vs, osl2⟩) (h5 : vs[11]? = some (.ref P)) : PySem.W.tabIn K x = some (c, P) := by
  unfold PySem.W.tabIn
  rw [h1]
  simp only [h2, h3, h4, h5]
end LamX

set_option Elab.async false
set_option linter.all false
set_option maxRecDepth 100000
set_option maxHeartbeats 4000000
namespace K01
open PySem L2 PySem.KX
def top (i : Nat) : Stmt := PySem.Challenge.pw_caseflow_k01_nets_made_and_known.main.body.getD i (.Pass ⟨0, 0, 0, 0⟩)
abbrev sis_integer : Stmt := top 2
theorem scis_integer : FnScope ["value"] ["value"] (defScope sis_integer) := ⟨rfl, rfl, rfl, by decide +kernel, rfl, by decide +kernel, by decide +kernel⟩
abbrev sis_integer_within : Stmt := top 3
theorem scis_integer_within : FnScope ["value", "least", "most"] ["value", "least", "most"] (defScope sis_integer_within) := ⟨rfl, rfl, rfl, by decide +kernel, rfl, by decide +kernel, by decide +kernel⟩
abbrev sis_name : Stmt := top 5
theorem scis_name : FnScope ["value", "letter"] ["value"] (defScope sis_name) := ⟨rfl, rfl, rfl, by decide +kernel, rfl, by decide +kernel, by decide +kernel⟩
abbrev sascends : Stmt := top 6
theorem scascends : FnScope ["values", "one", "other"] ["values"] (defScope sascends) := ⟨rfl, rfl, rfl, by decide +kernel, rfl, by decide +kernel, by decide +kernel⟩
structure TxtA (mg : Str → Option Value) : Prop where
  isinstance : mg "isinstance" = none
  int : mg "int" = none
  bool : mg "bool" = none
  str : mg "str" = none
  tuple : mg "tuple" = none
  len : mg "len" = none
  all : mg "all" = none
  zip : mg "zip" = none
  g_MAX_LETTERS : ∃ t, mg "MAX_LETTERS" = some (.int 8 t)
  g_MAX_PLACES : ∃ t, mg "MAX_PLACES" = some (.int 30 t)
  g_MAX_STEPS : ∃ t, mg "MAX_STEPS" = some (.int 40 t)
section
variable {P : Program} {w : World} {K : PySem.W.Frag} {mg : Str → Option Value} {base : Heap}
/-- a test of data that makes nothing -/
def spT (K : PySem.W.Frag) (p : PyData → Bool) : Sp := fun vs H Q _ => ∃ (v : V) (d : PyData), vs = [v] ∧ Wd K H v d ∧ Q (.bl (p d)) H
/-- a test of data that may make something -/
def spN (K : PySem.W.Frag) (p : PyData → Bool) : Sp := fun vs H Q _ => ∃ (v : V) (d : PyData), vs = [v] ∧ Wd K H v d ∧ ∀ H', Same H H' → Q (.bl (p d)) H'
def spWithin (K : PySem.W.Frag) : Sp := fun vs H Q _ => ∃ (v : V) (d : PyData) (lo hi : Int), vs = [v, .int lo, .int hi] ∧ Wd K H v d ∧ Q (.bl (intIn lo hi d)) H
theorem ok_is_integer {f : Addr} {fd : FuncData} (F : Fun K "is_integer" "is_integer" sis_integer f fd) (T : TxtA mg) : FnG P w K mg base CX0 1 f fd ["value"] (spT K isIntD) := by
  have nd := scis_integer.nd
  refine okG F scis_integer (fun vs H Q E h => ?_) (fun cdv A outer s H vs Q E hr h => ?_)
  · obtain ⟨_, _, rfl, _⟩ := h
    rfl
  · obtain ⟨v, d, rfl, hd, k⟩ := h
    refine ⟨_, (pss_one (ps_ret (pe_and (pe_callB call_isiA (by rfl) T.isinstance (by decide +kernel) (pa_cons (av 0) (pa_cons (pe_bltn (v := .ty "int") (u := .type "int") rfl T.int (by decide +kernel) rfl) pa_nil))) (pe_one (pe_not (pe_callB call_isiA (by rfl) T.isinstance (by decide +kernel) (pa_cons (av 0) (pa_cons (pe_bltn (v := .ty "bool") (u := .type "bool") rfl T.bool (by decide +kernel) rfl) pa_nil)))))))), ?_⟩
    refine ⟨_, _, _, _, _, rfl, .ty _, hd.dq.ty, kit_ty (kit_int d), _, rfl, ?_⟩
    cases d with
    | int i => exact ⟨_, _, _, _, _, rfl, .ty _, hd.dq.ty, kit_ty (kit_bool (.int i)), _, rfl, k⟩
    | bool b => exact ⟨_, _, _, _, _, rfl, .ty _, hd.dq.ty, kit_ty (kit_bool (.bool b)), _, rfl, k⟩
    | none => exact k
    | str x => exact k
    | list ds => exact k
    | tuple ds => exact k
    | dict kv => exact k
theorem ok_is_integer_within {f : Addr} {fd : FuncData} (F : Fun K "is_integer_within" "is_integer_within" sis_integer_within f fd) (Ois_integer : Own P w K mg base CX0 "is_integer" 1 ["value"] (spT K isIntD)) : FnG P w K mg base CX0 2 f fd ["value", "least", "most"] (spWithin K) := by
  have nd := scis_integer_within.nd
  refine okG F scis_integer_within (fun vs H Q E h => ?_) (fun cdv A outer s H vs Q E hr h => ?_)
  · obtain ⟨_, _, _, _, rfl, _⟩ := h
    rfl
  · obtain ⟨v, d, lo, hi, rfl, hd, k⟩ := h
    refine ⟨_, (pss_one (ps_ret (pe_and (pe_own Ois_integer hr (pa_cons (av 0) pa_nil) (by decide)) (pe_one (pe_chain op_leA op_leA (av 1) (av 0) (av 2)))))), ?_⟩
    refine ⟨v, d, rfl, hd, _, rfl, ?_⟩
    cases hd.dq with
    | int i =>
      refine ⟨_, rfl, ?_⟩
      have e : intIn lo hi (.int i) = (decide (lo ≤ i) && decide (i ≤ hi)) := rfl
      rw [e] at k
      refine ite2 (fun c => ?_) (fun c => ?_)
      · have c' : decide (lo ≤ i) = true := c
        rw [c'] at k
        exact k
      · have c' : decide (lo ≤ i) = false := Bool.eq_false_iff.mpr c
        rw [c'] at k
        exact k
    | non => exact k
    | bl b => exact k
    | str x => exact k
    | lst h1 h2 => exact k
    | tup h1 h2 => exact k
    | emp h1 => exact k
end
end K01

set_option Elab.async false
set_option linter.all false
set_option maxRecDepth 100000
set_option maxHeartbeats 4000000
namespace K01
open PySem L2 PySem.KX
def CmpD (ds : List PyData) : Prop := (∀ (i : Nat) (d : PyData), ds[i]? = some d → isIntD d = true) ∨ ∀ (i : Nat) (d : PyData), ds[i]? = some d → isStrB d = true
section
variable {P : Program} {w : World} {K : PySem.W.Frag} {mg : Str → Option Value} {base : Heap}
theorem ok_is_name {f : Addr} {fd : FuncData} (F : Fun K "is_name" "is_name" sis_name f fd) (T : TxtA mg) : FnG P w K mg base CX0 1 f fd ["value"] (spN K isNameD) := by
  have nd := scis_name.nd
  refine okG F scis_name (fun vs H Q E h => ?_) (fun cdv A outer s H vs Q E hr h => ?_)
  · obtain ⟨_, _, rfl, _⟩ := h
    rfl
  · obtain ⟨v, d, rfl, hd, k⟩ := h
    refine ⟨_, (pss_cons (ps_if (PW.pt (pw_or (pt_not (pt_valA (pe_callB call_isiA (by rfl) T.isinstance (by decide +kernel) (pa_cons (av 0) (pa_cons (pe_bltn (v := .ty "str") (u := .type "str") rfl T.str (by decide +kernel) rfl) pa_nil))))) (pw_or1 (pt_not (pt_chain op_leA op_leA pe_int (pe_callB call_lenA (by rfl) T.len PySem.boot_len (pa_cons (av 0) pa_nil)) (pe_gint T.g_MAX_LETTERS)))))) (pss_one (ps_ret pe_bl)) pss_nil)
      (pss_one (ps_ret (pe_callB (cr_all rfl) (by rfl) T.all (by decide +kernel) (pa_cons (pe_lc (own := [("letter", 1)]) (by rfl) nd (pi_str (av 0)) (blkOk_by (N := ["value", "letter"]) (sc := defScope sis_name) (by decide +kernel)) (fun _ _ _ _ _ => (pg_name (i := 1) nd rfl (Or.inl rfl))) (fun _ _ _ _ _ => pts_nil) (fun _ _ _ _ _ => PE.up (pe_chain op_le_str op_le_str pe_str (av 1) pe_str))) pa_nil))))), ?_⟩
    refine ⟨_, _, _, _, _, rfl, .ty _, hd.dq.ty, kit_ty (kit_str d), ?_⟩
    have no : isStrB d = false → isNameD d = false := fun e => by
      cases d <;> first | rfl | cases e
    cases hb : isStrB d with
    | false =>
      rw [no hb] at k
      refine (iteT (k _ (Same.refl _)) : if true = true then _ else _)
    | true =>
      refine iteF ?_
      cases hd.dq with
      | str x =>
        have hs : x.length ≤ 100000 := of_decide_eq_true hd.sm
        refine ⟨small_size (by omega), _, rfl, ?_⟩
        have e : isNameD (.str x) = ((decide (1 ≤ x.length) && decide (x.length ≤ 8)) && x.cps.toList.all lowC) := rfl
        rw [e] at k
        refine ite2 (fun c1 => ?_) (fun c1 => ?_)
        · have d1 : decide (1 ≤ x.length) = true := decide_eq_true (by have := of_decide_eq_true c1; omega)
          rw [d1] at k
          refine ⟨_, rfl, ?_⟩
          cases d2 : decide (x.length ≤ 8) with
          | false =>
            rw [d2] at k
            have c2 : decide ((x.length : Int) ≤ 8) = false := decide_eq_false (by have := of_decide_eq_false d2; omega)
            show (if (!decide ((x.length : Int) ≤ 8)) = true then _ else _)
            rw [c2]
            exact iteT (k _ (Same.refl _))
          | true =>
            rw [d2] at k
            have c2 : decide ((x.length : Int) ≤ 8) = true := decide_eq_true (by have := of_decide_eq_true d2; omega)
            show (if (!decide ((x.length : Int) ≤ 8)) = true then _ else _)
            rw [c2]
            refine iteF ⟨x, rfl, fun D hD => ?_⟩
            refine lc_itS walk_str (fun j u _ => ∃ c, x.cps[j]? = some c ∧ u = .bl (lowC c)) (fun _ _ _ _ _ h => h) hD (by have : x.cps.size = x.length := rfl; omega) (fun _ _ => True.intro) (fun j y H' H2 hj s5 hD5 ⟨e2, c, hc, ey⟩ => ?_) gName_mono (fun H' acc s6 hl la hacc => ?_)
            · subst e2
              subst ey
              refine ⟨rfl, _, _, rfl, rfl, _, rfl, ?_⟩
              have e3 : lowC c = (decide (97 ≤ c) && decide (c ≤ 122)) := rfl
              refine ite2 (fun c3 => ?_) (fun c3 => ?_)
              · have c3' : (!decide ((⟨#[c]⟩ : Str).cps.toList < ("a" : Str).cps.toList)) = true := c3
                rw [low_a] at c3'
                refine ⟨_, _, rfl, rfl, Same.refl _, c, hc, ?_⟩
                rw [e3, c3', low_z]
                rfl
              · have c3' : (!decide ((⟨#[c]⟩ : Str).cps.toList < ("a" : Str).cps.toList)) = false := Bool.eq_false_iff.mpr c3
                rw [low_a] at c3'
                refine ⟨Same.refl _, c, hc, ?_⟩
                rw [e3, c3']
                rfl
            · have ea : acc = (x.cps.toList.map lowC).map V.bl := acc_mapN (by simpa using la) fun j u hu => by
                obtain ⟨c, h1, h2⟩ := hacc j u hu
                exact ⟨c, by simpa using h1, h2⟩
              refine ⟨D, x.cps.toList.map lowC, rfl, SqL.of (by rw [← ea]; exact hl), ?_⟩
              rw [all_mapN]
              exact k _ s6
        · have d1 : decide (1 ≤ x.length) = false := decide_eq_false fun z => c1 (decide_eq_true (by omega))
          rw [d1] at k
          exact ⟨_, rfl, iteT (k _ (Same.refl _))⟩
      | _ => cases hb
end
end K01

set_option Elab.async false
set_option linter.all false
set_option maxRecDepth 100000
set_option maxHeartbeats 4000000
namespace K01
open PySem L2 PySem.KX
theorem asc_range (ds : List PyData) : ∀ {acc : List V}, acc.length = min ds.length ds.tail.length → (∀ (j : Nat) (u : V), acc[j]? = some u → ∃ d e, ds[j]? = some d ∧ ds.tail[j]? = some e ∧ u = .bl (ltD d e)) → acc = ((ds.zip ds.tail).map fun p => ltD p.1 p.2).map V.bl := fun {acc} hl h => by
  refine acc_mapN (by rw [List.length_zip]; exact hl) fun j u hu => ?_
  obtain ⟨d, e, h1, h2, h3⟩ := h j u hu
  exact ⟨(d, e), by rw [List.getElem?_zip_eq_some]; exact ⟨h1, h2⟩, h3⟩
section
variable {P : Program} {w : World} {K : PySem.W.Frag} {mg : Str → Option Value} {base : Heap}
def spAsc (K : PySem.W.Frag) : Sp := fun vs H Q _ => ∃ (a : Addr) (xs : List V) (ds : List PyData), vs = [.ref a] ∧ (SqL K H a xs ∨ SqT K H a xs) ∧ DqAll K H xs ds ∧ CmpD ds ∧ ds.length ≤ 100000 ∧ ∀ H', Same H H' → Q (.bl (ascD ds)) H'
theorem lt_of {K : PySem.W.Frag} {H : Hp} {x y : V} {d e : PyData} {Q : VK} (c : (isIntD d = true ∧ isIntD e = true) ∨ (isStrB d = true ∧ isStrB e = true)) (hx : Dq K H x d) (hy : Dq K H y e) (k : Q (.bl (ltD d e)) H) : rLtS x y H Q := by
  rcases c with ⟨c1, c2⟩ | ⟨c1, c2⟩
  · cases hx with
    | int i =>
      cases hy with
      | int j => exact k
      | _ => cases c2
    | _ => cases c1
  · cases hx with
    | str i =>
      cases hy with
      | str j => exact k
      | _ => cases c2
    | _ => cases c1
theorem ok_ascends {f : Addr} {fd : FuncData} (F : Fun K "ascends" "ascends" sascends f fd) (T : TxtA mg) : FnG P w K mg base CX0 1 f fd ["values"] (spAsc K) := by
  have nd := scascends.nd
  refine okG F scascends (fun vs H Q E h => ?_) (fun cdv A outer s H vs Q E hr h => ?_)
  · obtain ⟨_, _, _, rfl, _⟩ := h
    rfl
  · obtain ⟨a, xs, ds, rfl, hq, hd, hc, hn, k⟩ := h
    refine ⟨_, (pss_one (ps_ret (pe_callB (cr_all rfl) (by rfl) T.all (by decide +kernel) (pa_cons (pe_lc (own := [("one", 1), ("other", 2)]) (by rfl) nd (RZ.pi_zipA (by rfl) T.zip (pa_cons (av 0) (pa_cons (pe_slice (sl_listS.or sl_tupS) (av 0) (po_some pe_int) po_none) pa_nil))) (blkOk_by (N := ["values", "one", "other"]) (sc := defScope sascends) (by decide +kernel)) (fun _ _ _ _ _ => (show PG _ _ (gTup K 2 (gCons (gName 1) (gCons (gName 2) gNil))) from (pg_tup rfl (pgs_cons (pg_name (i := 1) nd rfl (Or.inl rfl)) (pgs_cons (pg_name (i := 2) nd rfl (Or.inl rfl)) pgs_nil))))) (fun _ _ _ _ _ => pts_nil) (fun _ _ _ _ _ => PE.up (pe_cmpA op_ltS (av 1) (av 2)))) pa_nil)))), ?_⟩
    have hlen := hd.length
    have fin : ∀ (H1 : Hp) (s1 : Same H H1) (D : Addr) (H' : Hp) (acc : List V), Same H1 H' → H' D = some (.lst acc) → acc.length = min xs.length xs.tail.length → (∀ (j : Nat) (v : V), acc[j]? = some v → ∃ d e, ds[j]? = some d ∧ ds.tail[j]? = some e ∧ v = .bl (ltD d e)) →
        rAll K [.ref D] H' Q := fun H1 s1 D H' acc s2 hl la hacc => by
      have ea := asc_range ds (acc := acc) (by rw [la, List.length_tail, List.length_tail, hlen]) hacc
      refine ⟨D, (ds.zip ds.tail).map fun p => ltD p.1 p.2, rfl, SqL.of (by rw [← ea]; exact hl), ?_⟩
      rw [all_mapN]
      exact k _ (s1.trans s2)
    have stp : ∀ (H1 H' H2 : Hp) (D : Addr) (j : Nat) (y : V) (σ0 : St), Same H H1 → Same H1 H' → YPair (fun i => xs[i]?) (fun i => xs.tail[i]?) j H' y H2 → σ0.length = 3 → (σ0.set 1 none).set 2 none = σ0 → H' D ≠ none →
        gTup K 2 (gCons (gName 1) (gCons (gName 2) gNil)) y σ0 H2 fun σ3 H3 => (σ3.set 2 none).set 1 none = (σ0.set 2 none).set 1 none ∧ tOp rLtS (aVar 1) (aVar 2) σ3 H3 fun u H4 => Same H' H4 ∧ ∃ d e, ds[j]? = some d ∧ ds.tail[j]? = some e ∧ u = .bl (ltD d e) := by
      rintro H1 H' H2 D j y σ0 s1 s2 ⟨T, x1, y1, rfl, hT, rfl, hx, hy⟩ hσ _ _
      refine tup2 ?_
      obtain ⟨d, hd1, hd2⟩ := hd.get hx
      have hy' : xs[j + 1]? = some y1 := by rw [← List.getElem?_tail]; exact hy
      obtain ⟨e, he1, he2⟩ := hd.get hy'
      have s3 : Same H (upd H' T (.tup [x1, y1])) := (s1.trans s2).new hT
      match σ0, hσ with
      | [o0, o1, o2], _ =>
        refine ⟨rfl, ?_⟩
        refine lt_of (K := K) (d := d) (e := e) (Q := fun u H4 => Same H' H4 ∧ ∃ d e, ds[j]? = some d ∧ ds.tail[j]? = some e ∧ u = .bl (ltD d e)) ?_ (Dq.same s3 _ _ hd2) (Dq.same s3 _ _ he2) ⟨(Same.refl _).new hT, d, e, hd1, by rw [List.getElem?_tail]; exact he1, rfl⟩
        rcases hc with hc | hc
        · exact .inl ⟨hc _ _ hd1, hc _ _ he1⟩
        · exact .inr ⟨hc _ _ hd1, hc _ _ he1⟩
    have hn1 : min xs.length xs.tail.length ≤ 1000000 := by omega
    refine ⟨1, rfl, ?_⟩
    rcases hq with hq | hq
    · refine .inl ⟨a, xs, rfl, hq, fun p H1 s1 n1 l1 => ?_⟩
      rw [cut_tail] at l1
      refine ⟨a, p, xs, xs.tail, rfl, .inl ⟨s1.sqL hq, SqL.of l1, fun D hD => ?_⟩⟩
      refine lc_itS (walk_zip rfl) (fun j u _ => ∃ d e, ds[j]? = some d ∧ ds.tail[j]? = some e ∧ u = .bl (ltD d e)) (fun _ _ _ _ _ h => h) hD hn1 (fun H' s2 => ⟨s2.sqL (s1.sqL hq), s2.sqL (SqL.of l1)⟩) (fun j y H' H2 hj s2 hD2 hy => ?_) gTup2_mono (fun H' acc s2 hl la hacc => fin H1 s1 D H' acc s2 hl la hacc)
      exact stp H1 H' H2 D j y _ s1 s2 hy rfl rfl hD2
    · refine .inr ⟨a, xs, rfl, hq, fun p H1 s1 l1 => ?_⟩
      rw [cut_tail] at l1
      refine ⟨a, p, xs, xs.tail, rfl, .inr ⟨s1.sqT hq, l1, fun D hD => ?_⟩⟩
      refine lc_itS (walk_zipT rfl) (fun j u _ => ∃ d e, ds[j]? = some d ∧ ds.tail[j]? = some e ∧ u = .bl (ltD d e)) (fun _ _ _ _ _ h => h) hD hn1 (fun H' s2 => ⟨s2.sqT (s1.sqT hq), s2.sqT l1⟩) (fun j y H' H2 hj s2 hD2 hy => ?_) gTup2_mono (fun H' acc s2 hl la hacc => fin H1 s1 D H' acc s2 hl la hacc)
      exact stp H1 H' H2 D j y _ s1 s2 hy rfl rfl hD2
end
end K01

set_option Elab.async false
set_option linter.all false
set_option maxRecDepth 100000
set_option maxHeartbeats 4000000
namespace K01
open PySem L2 PySem.KX
abbrev sare_places : Stmt := top 24
theorem scare_places : FnScope ["places", "value", "place"] ["places", "value"] (defScope sare_places) := ⟨rfl, rfl, rfl, by decide +kernel, rfl, by decide +kernel, by decide +kernel⟩
abbrev s_is_step : Stmt := top 25
theorem sc_is_step : FnScope ["places", "value", "name", "inputs", "outputs"] ["places", "value"] (defScope s_is_step) := ⟨rfl, rfl, rfl, by decide +kernel, rfl, by decide +kernel, by decide +kernel⟩
theorem step3 {n : Int} : ∀ {ds : List PyData}, ds.length ≠ 3 → stepD n (.tuple ds) = false
  | [], _ => rfl
  | [_], _ => rfl
  | [_, _], _ => rfl
  | [_, _, _], h => absurd rfl h
  | _ :: _ :: _ :: _ :: _, _ => rfl
theorem len3 {ds : List PyData} (h : ds.length = 3) : ∃ a b c, ds = [a, b, c] := by
  match ds, h with
  | [a, b, c], _ => exact ⟨a, b, c, rfl⟩
theorem dq3 {K : PySem.W.Frag} {H : Hp} {xs : List V} {a b c : PyData} (h : DqAll K H xs [a, b, c]) : ∃ x y z, xs = [x, y, z] ∧ Dq K H x a ∧ Dq K H y b ∧ Dq K H z c := by
  cases h with
  | cons h1 t =>
    cases t with
    | cons h2 t =>
      cases t with
      | cons h3 t =>
        cases t
        exact ⟨_, _, _, rfl, h1, h2, h3⟩
theorem sm3 {a b c : PyData} (h : smQ (.tuple [a, b, c]) = true) : smQ a = true ∧ smQ b = true ∧ smQ c = true := by
  have h2 := (smQ_tup h).2
  exact ⟨smQ_mem (i := 0) h2 rfl, smQ_mem (i := 1) h2 rfl, smQ_mem (i := 2) h2 rfl⟩
section
variable {P : Program} {w : World} {K : PySem.W.Frag} {mg : Str → Option Value} {base : Heap}
def spPlaces (K : PySem.W.Frag) (p : Int → PyData → Bool) : Sp := fun vs H Q _ => ∃ (n : Int) (v : V) (d : PyData), vs = [.int n, v] ∧ Wd K H v d ∧ ∀ H', Same H H' → Q (.bl (p n d)) H'
theorem ok_are_places {f : Addr} {fd : FuncData} (F : Fun K "are_places" "are_places" sare_places f fd) (T : TxtA mg) (Ois_integer_within : Own P w K mg base CX0 "is_integer_within" 2 ["value", "least", "most"] (spWithin K)) (Oascends : Own P w K mg base CX0 "ascends" 1 ["values"] (spAsc K)) :
    FnG P w K mg base CX0 3 f fd ["places", "value"] (spPlaces K placesD) := by
  have nd := scare_places.nd
  refine okG F scare_places (fun vs H Q E h => ?_) (fun cdv A outer s H vs Q E hr h => ?_)
  · obtain ⟨_, _, _, rfl, _⟩ := h
    rfl
  · obtain ⟨n, v, d, rfl, hd, k⟩ := h
    refine ⟨_, (pss_cons (ps_if (pt_not (pt_valA (pe_callB call_isiA (by rfl) T.isinstance (by decide +kernel) (pa_cons (av 1) (pa_cons (pe_bltn (v := .ty "tuple") (u := .type "tuple") rfl T.tuple (by decide +kernel) rfl) pa_nil))))) (pss_one (ps_ret pe_bl)) pss_nil)
      (pss_cons (ps_if (pt_not (pt_valA (pe_callB (cr_all rfl) (by rfl) T.all (by decide +kernel) (pa_cons (pe_lc (own := [("place", 2)]) (by rfl) nd (pi_tup (av 1)) (blkOk_by (N := ["places", "value", "place"]) (sc := defScope sare_places) (by decide +kernel)) (fun _ _ _ _ _ => (pg_name (i := 2) nd rfl (Or.inl rfl))) (fun _ _ _ _ _ => pts_nil) (fun _ _ _ _ _ => PE.up (pe_own Ois_integer_within hr (pa_cons (av 2) (pa_cons pe_int (pa_cons (pe_op op_subA (av 0) pe_int) pa_nil))) (by decide)))) pa_nil)))) (pss_one (ps_ret pe_bl)) pss_nil)
      (pss_one (ps_ret (pe_own Oascends hr (pa_cons (av 1) pa_nil) (by decide)))))), ?_⟩
    refine ⟨_, _, _, _, _, rfl, .ty _, hd.dq.ty, kit_ty (kit_tuple d), ?_⟩
    have no : isTupB d = false → placesD n d = false := fun e => by
      cases d <;> first | rfl | cases e
    cases hb : isTupB d with
    | false =>
      rw [no hb] at k
      refine (iteT (k _ (Same.refl _)) : if true = true then _ else _)
    | true =>
      refine iteF ?_
      obtain ⟨hdq, hsm⟩ := hd
      cases hdq with
      | @tup a xs ds hq ha =>
        have hlen := ha.length
        obtain ⟨hn, hs2⟩ := smQ_tup hsm
        refine ⟨a, rfl, ⟨_, hq⟩, fun D hD => ?_⟩
        refine lc_itS (walk_tup (xs := xs)) (fun j u _ => ∃ d, ds[j]? = some d ∧ u = .bl (intIn 0 (n - 1) d)) (fun _ _ _ _ _ h => h) hD (by omega) (fun H' s5 => s5.sqT hq) (fun j y H' H2 hj s5 hD5 ⟨e2, hy⟩ => ?_) gName_mono (fun H' acc s6 hl la hacc => ?_)
        · subst e2
          obtain ⟨d, h1, h2⟩ := ha.get hy
          exact ⟨rfl, y, d, 0, n - 1, rfl, ⟨Dq.same s5 _ _ h2, smQ_mem hs2 h1⟩, Same.refl _, d, h1, rfl⟩
        · have ea : acc = (ds.map (intIn 0 (n - 1))).map V.bl := acc_mapN (by rw [la, hlen]) hacc
          refine ⟨D, ds.map (intIn 0 (n - 1)), rfl, SqL.of (by rw [← ea]; exact hl), ?_⟩
          rw [all_mapN]
          have e3 : placesD n (.tuple ds) = (ds.all (intIn 0 (n - 1)) && ascD ds) := rfl
          rw [e3] at k
          cases c : ds.all (intIn 0 (n - 1)) with
          | false =>
            rw [c] at k
            refine (iteT (k _ s6) : if true = true then _ else _)
          | true =>
            rw [c] at k
            refine iteF ⟨a, xs, ds, rfl, .inr (s6.sqT hq), DqAll.same s6 _ _ ha, .inl fun i d hi => ?_, hn, fun H2 s7 => k _ (s6.trans s7)⟩
            have := List.all_eq_true.mp c d (List.mem_of_getElem? hi)
            cases d <;> first | rfl | cases this
      | _ => cases hb
theorem ok_is_step {f : Addr} {fd : FuncData} (F : Fun K "_is_step" "_is_step" s_is_step f fd) (T : TxtA mg) (Ois_name : Own P w K mg base CX0 "is_name" 1 ["value"] (spN K isNameD)) (Oare_places : Own P w K mg base CX0 "are_places" 3 ["places", "value"] (spPlaces K placesD)) :
    FnG P w K mg base CX0 4 f fd ["places", "value"] (spPlaces K stepD) := by
  have nd := sc_is_step.nd
  refine okG F sc_is_step (fun vs H Q E h => ?_) (fun cdv A outer s H vs Q E hr h => ?_)
  · obtain ⟨_, _, _, rfl, _⟩ := h
    rfl
  · obtain ⟨n, v, d, rfl, hd, k⟩ := h
    refine ⟨_, (pss_cons (ps_if (PW.pt (pw_or (pt_not (pt_valA (pe_callB call_isiA (by rfl) T.isinstance (by decide +kernel) (pa_cons (av 1) (pa_cons (pe_bltn (v := .ty "tuple") (u := .type "tuple") rfl T.tuple (by decide +kernel) rfl) pa_nil))))) (pw_or1 (pt_cmpA (op_neA hr.units64) (pe_callB call_lenA (by rfl) T.len PySem.boot_len (pa_cons (av 1) pa_nil)) pe_int)))) (pss_one (ps_ret pe_bl)) pss_nil)
      (pss_cons (ps_asg (av 1) (pg_tup rfl (pgs_cons (pg_name (i := 2) nd rfl (Or.inl rfl)) (pgs_cons (pg_name (i := 3) nd rfl (Or.inl rfl)) (pgs_cons (pg_name (i := 4) nd rfl (Or.inl rfl)) pgs_nil)))))
      (pss_cons (ps_if (PW.pt (pw_or (pt_not (pt_valA (pe_own Ois_name hr (pa_cons (av 2) pa_nil) (by decide)))) (pw_or (pt_cmpA (op_eqNil hr.units64) (av 3) (pe_tupS pa_nil)) (pw_or1 (pt_cmpA (op_eqNil hr.units64) (av 4) (pe_tupS pa_nil)))))) (pss_one (ps_ret pe_bl)) pss_nil)
      (pss_one (ps_ret (pe_and (pe_own Oare_places hr (pa_cons (av 0) (pa_cons (av 3) pa_nil)) (by decide)) (pe_one (pe_own Oare_places hr (pa_cons (av 0) (pa_cons (av 4) pa_nil)) (by decide))))))))), ?_⟩
    refine ⟨_, _, _, _, _, rfl, .ty _, hd.dq.ty, kit_ty (kit_tuple d), ?_⟩
    have no : isTupB d = false → stepD n d = false := fun e => by
      cases d <;> first | rfl | cases e
    cases hb : isTupB d with
    | false =>
      rw [no hb] at k
      refine (iteT (iteT (k _ (Same.refl _))) : if true = true then _ else _)
    | true =>
      refine iteF ?_
      obtain ⟨hdq, hsm⟩ := hd
      cases hdq with
      | @tup a xs ds hq ha =>
        have hlen := ha.length
        refine .inr ⟨xs, hq, ?_⟩
        by_cases h3 : ds.length = 3
        · have c : (!decide ((xs.length : Int) = 3)) = false := by rw [decide_eq_true (by omega)]; rfl
          show (if (!decide ((xs.length : Int) = 3)) = true then _ else _)
          rw [c]
          refine iteF ?_
          obtain ⟨da, db, dc, rfl⟩ := len3 h3
          obtain ⟨x, y, z, rfl, hx, hy, hz⟩ := dq3 ha
          obtain ⟨m1, m2, m3⟩ := sm3 hsm
          refine ⟨a, _, rfl, hq, rfl, _, _, rfl, _, _, rfl, _, _, rfl, rfl, ?_⟩
          refine ⟨x, da, rfl, ⟨hx, m1⟩, fun H1 s1 => ?_⟩
          have e3 : stepD n (.tuple [da, db, dc]) = (isNameD da && (!isNilD db && (!isNilD dc && (placesD n db && placesD n dc)))) := rfl
          rw [e3] at k
          cases c1 : isNameD da with
          | false =>
            rw [c1] at k
            refine (iteT (iteT (k _ s1)) : if true = true then _ else _)
          | true =>
            rw [c1] at k
            refine iteF ⟨by simp, fun p H2 s2 n2 l2 => ⟨p, db, rfl, SqT.of l2, Dq.same (s1.trans s2) _ _ hy, ?_⟩⟩
            cases c2 : isNilD db with
            | true =>
              rw [c2] at k
              refine iteT (iteT (k _ (s1.trans s2)))
            | false =>
              rw [c2] at k
              refine iteF ⟨by simp, fun p3 H3 s3 n3 l3 => ⟨p3, dc, rfl, SqT.of l3, Dq.same ((s1.trans s2).trans s3) _ _ hz, ?_⟩⟩
              cases c3 : isNilD dc with
              | true =>
                rw [c3] at k
                refine iteT (k _ ((s1.trans s2).trans s3))
              | false =>
                rw [c3] at k
                have s4 := (s1.trans s2).trans s3
                refine iteF ⟨n, y, db, rfl, ⟨Dq.same s4 _ _ hy, m2⟩, fun H5 s5 => ⟨_, rfl, ?_⟩⟩
                cases c4 : placesD n db with
                | false =>
                  rw [c4] at k
                  exact iteF (k _ (s4.trans s5))
                | true =>
                  rw [c4] at k
                  exact iteT ⟨n, z, dc, rfl, ⟨Dq.same (s4.trans s5) _ _ hz, m3⟩, fun H6 s6 => k _ ((s4.trans s5).trans s6)⟩
        · have c : (!decide ((xs.length : Int) = 3)) = true := by rw [decide_eq_false (by omega)]; rfl
          show (if (!decide ((xs.length : Int) = 3)) = true then _ else _)
          rw [c]
          rw [step3 h3] at k
          exact iteT (k _ (Same.refl _))
      | _ => cases hb
end
end K01

set_option Elab.async false
set_option linter.all false
set_option maxRecDepth 100000
set_option maxHeartbeats 4000000
namespace K01
open PySem L2 PySem.KX
abbrev sis_net : Stmt := top 17
theorem scis_net : FnScope ["value", "places", "steps", "step"] ["value"] (defScope sis_net) := ⟨rfl, rfl, rfl, by decide +kernel, rfl, by decide +kernel, by decide +kernel⟩
theorem net2 : ∀ {ds : List PyData}, ds.length ≠ 2 → netD (.tuple ds) = false
  | [], _ => rfl
  | [d], _ => by cases d <;> rfl
  | [_, _], h => absurd rfl h
  | d :: e :: _ :: _, _ => by cases d <;> first | rfl | (cases e <;> rfl)
theorem len2 {ds : List PyData} (h : ds.length = 2) : ∃ a b, ds = [a, b] := by
  match ds, h with
  | [a, b], _ => exact ⟨a, b, rfl⟩
theorem dq2 {K : PySem.W.Frag} {H : Hp} {xs : List V} {a b : PyData} (h : DqAll K H xs [a, b]) : ∃ x y, xs = [x, y] ∧ Dq K H x a ∧ Dq K H y b := by
  cases h with
  | cons h1 t =>
    cases t with
    | cons h2 t =>
      cases t
      exact ⟨_, _, rfl, h1, h2⟩
theorem sm2 {a b : PyData} (h : smQ (.tuple [a, b]) = true) : smQ a = true ∧ smQ b = true := by
  have h2 := (smQ_tup h).2
  exact ⟨smQ_mem (i := 0) h2 rfl, smQ_mem (i := 1) h2 rfl⟩
theorem step_is {n : Int} {d : PyData} (h : stepD n d = true) : ∃ x b c, d = .tuple [.str x, b, c] := by
  cases d with
  | tuple ds =>
    by_cases h3 : ds.length = 3
    · obtain ⟨a, b, c, rfl⟩ := len3 h3
      have e3 : stepD n (.tuple [a, b, c]) = (isNameD a && (!isNilD b && (!isNilD c && (placesD n b && placesD n c)))) := rfl
      rw [e3] at h
      have h1 := (Bool.and_eq_true_iff.mp h).1
      cases a with
      | str x => exact ⟨x, b, c, rfl⟩
      | _ => cases h1
    · rw [step3 h3] at h
      cases h
  | _ => cases h
section
variable {P : Program} {w : World} {K : PySem.W.Frag} {mg : Str → Option Value} {base : Heap}
theorem ok_is_net {f : Addr} {fd : FuncData} (F : Fun K "is_net" "is_net" sis_net f fd) (T : TxtA mg) (Ois_integer_within : Own P w K mg base CX0 "is_integer_within" 2 ["value", "least", "most"] (spWithin K)) (Oascends : Own P w K mg base CX0 "ascends" 1 ["values"] (spAsc K))
    (O_is_step : Own P w K mg base CX0 "_is_step" 4 ["places", "value"] (spPlaces K stepD)) : FnG P w K mg base CX0 5 f fd ["value"] (spN K netD) := by
  have nd := scis_net.nd
  refine okG F scis_net (fun vs H Q E h => ?_) (fun cdv A outer s H vs Q E hr h => ?_)
  · obtain ⟨_, _, rfl, _⟩ := h
    rfl
  · obtain ⟨v, d, rfl, hd, k⟩ := h
    refine ⟨_, (pss_cons (ps_if (PW.pt (pw_or (pt_not (pt_valA (pe_callB call_isiA (by rfl) T.isinstance (by decide +kernel) (pa_cons (av 0) (pa_cons (pe_bltn (v := .ty "tuple") (u := .type "tuple") rfl T.tuple (by decide +kernel) rfl) pa_nil))))) (pw_or1 (pt_cmpA (op_neA hr.units64) (pe_callB call_lenA (by rfl) T.len PySem.boot_len (pa_cons (av 0) pa_nil)) pe_int)))) (pss_one (ps_ret pe_bl)) pss_nil)
      (pss_cons (ps_asg (av 0) (pg_tup rfl (pgs_cons (pg_name (i := 1) nd rfl (Or.inr rfl)) (pgs_cons (pg_name (i := 2) nd rfl (Or.inl rfl)) pgs_nil))))
      (pss_cons (ps_if (pt_not (pt_valA (pe_own Ois_integer_within hr (pa_cons (av 1) (pa_cons pe_int (pa_cons (pe_gint T.g_MAX_PLACES) pa_nil))) (by decide)))) (pss_one (ps_ret pe_bl)) pss_nil)
      (pss_cons (ps_if (PW.pt (pw_or (pt_not (pt_valA (pe_callB call_isiA (by rfl) T.isinstance (by decide +kernel) (pa_cons (av 2) (pa_cons (pe_bltn (v := .ty "tuple") (u := .type "tuple") rfl T.tuple (by decide +kernel) rfl) pa_nil))))) (pw_or1 (pt_not (pt_chain op_leA op_leA pe_int (pe_callB call_lenA (by rfl) T.len PySem.boot_len (pa_cons (av 2) pa_nil)) (pe_gint T.g_MAX_STEPS)))))) (pss_one (ps_ret pe_bl)) pss_nil)
      (pss_cons (ps_if (pt_not (pt_valA (pe_callB (cr_all rfl) (by rfl) T.all (by decide +kernel) (pa_cons (pe_lc (own := [("step", 3)]) (by rfl) nd (pi_tup (av 2)) (blkOk_by (N := ["value", "places", "steps", "step"]) (sc := defScope sis_net) (by decide +kernel)) (fun _ _ _ _ _ => (pg_name (i := 3) nd rfl (Or.inl rfl))) (fun _ _ _ _ _ => pts_nil) (fun _ _ _ _ _ => PE.up (pe_own O_is_step hr (pa_cons (av 1) (pa_cons (av 3) pa_nil)) (by decide)))) pa_nil)))) (pss_one (ps_ret pe_bl)) pss_nil)
      (pss_one (ps_ret (pe_own Oascends hr (pa_cons (pe_lc (own := [("step", 3)]) (by rfl) nd (pi_tup (av 2)) (blkOk_by (N := ["value", "places", "steps", "step"]) (sc := defScope sis_net) (by decide +kernel)) (fun _ _ _ _ _ => (pg_name (i := 3) nd rfl (Or.inl rfl))) (fun _ _ _ _ _ => pts_nil) (fun _ _ _ _ _ => PE.up (show PE _ _ (tOp (rIxA K) (aVar 3) (tC (.int 0))) from (pe_ixA (av 3) pe_int)))) pa_nil) (by decide))))))))), ?_⟩
    refine ⟨_, _, _, _, _, rfl, .ty _, hd.dq.ty, kit_ty (kit_tuple d), ?_⟩
    have no : isTupB d = false → netD d = false := fun e => by
      cases d <;> first | rfl | cases e
    cases hb : isTupB d with
    | false =>
      rw [no hb] at k
      refine (iteT (iteT (k _ (Same.refl _))) : if true = true then _ else _)
    | true =>
      refine iteF ?_
      obtain ⟨hdq, hsm⟩ := hd
      cases hdq with
      | @tup a xs ds hq ha =>
        have hlen := ha.length
        refine .inr ⟨xs, hq, ?_⟩
        by_cases h2 : ds.length = 2
        · have c : (!decide ((xs.length : Int) = 2)) = false := by rw [decide_eq_true (by omega)]; rfl
          show (if (!decide ((xs.length : Int) = 2)) = true then _ else _)
          rw [c]
          refine iteF ?_
          obtain ⟨da, db, rfl⟩ := len2 h2
          obtain ⟨x, y, rfl, hx, hy⟩ := dq2 ha
          obtain ⟨m1, m2⟩ := sm2 hsm
          refine ⟨a, _, rfl, hq, rfl, _, _, rfl, _, _, rfl, rfl, ?_⟩
          refine ⟨x, da, 2, 30, rfl, ⟨hx, m1⟩, ?_⟩
          cases c1 : intIn 2 30 da with
          | false =>
            have e : netD (.tuple [da, db]) = false := by
              cases da with
              | int n =>
                cases db with
                | tuple es =>
                  show ((decide (2 ≤ n) && decide (n ≤ 30)) && _) = false
                  rw [show (decide (2 ≤ n) && decide (n ≤ 30)) = false from c1]
                  rfl
                | _ => rfl
              | _ => rfl
            rw [e] at k
            refine (iteT (k _ (Same.refl _)) : if true = true then _ else _)
          | true =>
            refine iteF ?_
            cases hx with
            | int n =>
              have c1' : (decide (2 ≤ n) && decide (n ≤ 30)) = true := c1
              refine ⟨_, _, _, _, _, rfl, .ty _, hy.ty, kit_ty (kit_tuple db), ?_⟩
              cases hb2 : isTupB db with
              | false =>
                have e : netD (.tuple [.int n, db]) = false := by cases db <;> first | rfl | cases hb2
                rw [e] at k
                refine (iteT (iteT (k _ (Same.refl _))) : if true = true then _ else _)
              | true =>
                refine iteF ?_
                cases hy with
                | @tup b ys es hyq hya =>
                  have hlen2 := hya.length
                  obtain ⟨hn, hs2⟩ := smQ_tup m2
                  have en : netD (.tuple [.int n, .tuple es]) = ((decide (2 ≤ n) && decide (n ≤ 30)) && ((decide (1 ≤ es.length) && decide (es.length ≤ 40)) && (es.all (stepD n) && ascD (es.map firstD)))) := rfl
                  rw [en, c1'] at k
                  refine .inr ⟨ys, hyq, _, rfl, ?_⟩
                  have fin1 : (decide (1 ≤ es.length) && decide (es.length ≤ 40)) = false → Q (.bl false) H := fun e => by
                    rw [e] at k
                    exact k _ (Same.refl _)
                  refine ite2 (fun d1 => ?_) (fun d1 => ?_)
                  · have g1 : decide (1 ≤ es.length) = true := decide_eq_true (by have := of_decide_eq_true d1; omega)
                    refine ⟨_, rfl, ?_⟩
                    cases g2 : decide (es.length ≤ 40) with
                    | false =>
                      have d2 : decide ((ys.length : Int) ≤ 40) = false := decide_eq_false (by have := of_decide_eq_false g2; omega)
                      show (if (!decide ((ys.length : Int) ≤ 40)) = true then _ else _)
                      rw [d2]
                      exact iteT (fin1 (by rw [g1, g2]; rfl))
                    | true =>
                      have d2 : decide ((ys.length : Int) ≤ 40) = true := decide_eq_true (by have := of_decide_eq_true g2; omega)
                      show (if (!decide ((ys.length : Int) ≤ 40)) = true then _ else _)
                      rw [d2]
                      rw [g1, g2] at k
                      refine iteF ⟨b, rfl, ⟨_, hyq⟩, fun D hD => ?_⟩
                      refine lc_itS (walk_tup (xs := ys)) (fun j u _ => ∃ d, es[j]? = some d ∧ u = .bl (stepD n d)) (fun _ _ _ _ _ h => h) hD (by omega) (fun H' s5 => s5.sqT hyq) (fun j z H' H2 hj s5 hD5 ⟨e2, hz⟩ => ?_) gName_mono (fun H' acc s6 hl la hacc => ?_)
                      · subst e2
                        obtain ⟨d, h1, h2⟩ := hya.get hz
                        exact ⟨rfl, n, z, d, rfl, ⟨Dq.same s5 _ _ h2, smQ_mem hs2 h1⟩, fun H4 s7 => ⟨s7, d, h1, rfl⟩⟩
                      · have ea : acc = (es.map (stepD n)).map V.bl := acc_mapN (by rw [la, hlen2]) hacc
                        refine ⟨D, es.map (stepD n), rfl, SqL.of (by rw [← ea]; exact hl), ?_⟩
                        rw [all_mapN]
                        cases c3 : es.all (stepD n) with
                        | false =>
                          rw [c3] at k
                          refine (iteT (k _ s6) : if true = true then _ else _)
                        | true =>
                          rw [c3] at k
                          have hst : ∀ (j : Nat) (d : PyData), es[j]? = some d → ∃ x b c, d = .tuple [.str x, b, c] := fun j d hj => step_is (List.all_eq_true.mp c3 d (List.mem_of_getElem? hj))
                          refine iteF ⟨b, rfl, ⟨_, s6.sqT hyq⟩, fun D2 hD2 => ?_⟩
                          refine lc_itS (walk_tup (xs := ys)) (fun j u _ => ∃ x, (es.map firstD)[j]? = some (.str x) ∧ u = .str x) (fun _ _ _ _ _ h => h) hD2 (by omega) (fun H' s7 => (s6.trans s7).sqT hyq) (fun j z H' H2 hj s7 hD7 ⟨e2, hz⟩ => ?_) gName_mono (fun H2 acc2 s8 hl2 la2 hacc2 => ?_)
                          · subst e2
                            obtain ⟨d, h1, h2⟩ := hya.get hz
                            obtain ⟨x, bb, cc, rfl⟩ := hst j d h1
                            have h2' := Dq.same (s6.trans s7) _ _ h2
                            cases h2' with
                            | @tup q zs _ hzq hza =>
                              obtain ⟨z1, z2, z3, rfl, hz1, _, _⟩ := dq3 hza
                              cases hz1
                              refine ⟨rfl, .inr ⟨_, .str x, hzq, rfl, Same.refl _, x, ?_, rfl⟩⟩
                              rw [List.getElem?_map, h1]
                              rfl
                          · refine ⟨D2, acc2, es.map firstD, rfl, .inl (SqL.of hl2), dqAll_get _ _ (by simp [la2, hlen2]) (fun j u hu => ?_), .inr (fun j d hj => ?_), by simp; omega, fun H3 s9 => k _ ((s6.trans s8).trans s9)⟩
                            · obtain ⟨x, h1, rfl⟩ := hacc2 j u hu
                              exact ⟨.str x, h1, .str x⟩
                            · rw [List.getElem?_map] at hj
                              cases q : es[j]? with
                              | none => rw [q] at hj; cases hj
                              | some e0 =>
                                rw [q] at hj
                                obtain ⟨x, bb, cc, rfl⟩ := hst j e0 q
                                cases hj
                                rfl
                  · have g1 : decide (1 ≤ es.length) = false := decide_eq_false fun z => d1 (decide_eq_true (by omega))
                    exact ⟨_, rfl, iteT (fin1 (by rw [g1]; rfl))⟩
                | _ => cases hb2
            | _ => cases c1
        · have c : (!decide ((xs.length : Int) = 2)) = true := by rw [decide_eq_false (by omega)]; rfl
          show (if (!decide ((xs.length : Int) = 2)) = true then _ else _)
          rw [c]
          rw [net2 h2] at k
          exact iteT (k _ (Same.refl _))
      | _ => cases hb
end
end K01

set_option Elab.async false
set_option linter.all false
set_option maxRecDepth 100000
set_option maxHeartbeats 4000000
namespace K01
open PySem PySem.Spec PyProof.Rows L2 LamX PySem.KX
abbrev s_law_met : Stmt := top 43
theorem sc_law_met : FnScope ["call", "e", "kinds"] ["call"] (defScope s_law_met) := ⟨rfl, rfl, rfl, by decide +kernel, rfl, by decide +kernel, by decide +kernel⟩
/-- data whose repr is known -/
structure Rp (K : PySem.W.Frag) (H : Hp) (v : V) (d : PyData) : Prop where
  dq : (d.hasDict = false ∧ Dq K H v d) ∨ Dn K H v d
  sb : d.showable = true
  dp : d.depth ≤ 60
  sz : d.shown.length ≤ sizeLine
/-- the addresses of UnknownStep, InvalidNumber, FlowError, InvalidNet, InvalidWorkflow -/
structure MetC where
  cS : Addr
  cN : Addr
  cF : Addr
  cI : Addr
  cW : Addr
structure TxtT (K : PySem.W.Frag) (mg : Str → Option Value) (c : MetC) : Prop where
  isinstance : mg "isinstance" = none
  repr : mg "repr" = none
  gS : mg "UnknownStep" = some (.ref c.cS)
  gN : mg "InvalidNumber" = some (.ref c.cN)
  gF : mg "FlowError" = some (.ref c.cF)
  gI : mg "InvalidNet" = some (.ref c.cI)
  gW : mg "InvalidWorkflow" = some (.ref c.cW)
  xS : XfC K c.cS
  nS : PySem.W.findIn K (.ref c.cS) "name" = some none
  xN : XfC K c.cN
  nN : PySem.W.findIn K (.ref c.cN) "value" = some none
  eSS : PySem.W.exmOne K (.ref c.cS) (.ref c.cS) = some true
  eNS : PySem.W.exmOne K (.ref c.cN) (.ref c.cS) = some false
  eNN : PySem.W.exmOne K (.ref c.cN) (.ref c.cN) = some true
  eIS : PySem.W.exmOne K (.ref c.cI) (.ref c.cS) = some false
  eIN : PySem.W.exmOne K (.ref c.cI) (.ref c.cN) = some false
  eIF : PySem.W.exmOne K (.ref c.cI) (.ref c.cF) = some true
  eWS : PySem.W.exmOne K (.ref c.cW) (.ref c.cS) = some false
  eWN : PySem.W.exmOne K (.ref c.cW) (.ref c.cN) = some false
  eWF : PySem.W.exmOne K (.ref c.cW) (.ref c.cF) = some true
  xI : XI K c.cI
  xW : XI K c.cW
  kII : PySem.W.kitOne K (.ref c.cI) (.ref c.cI) = some true
  kIW : PySem.W.kitOne K (.ref c.cI) (.ref c.cW) = some false
  kWI : PySem.W.kitOne K (.ref c.cW) (.ref c.cI) = some false
  kWW : PySem.W.kitOne K (.ref c.cW) (.ref c.cW) = some true
/-- what _law_met makes of an exception -/
def metE (K : PySem.W.Frag) (c : MetC) (Q : VK) : XK := fun cls d H' =>
  (∃ (dx : Addr) (v : V) (dd : PyData), cls = .ref c.cS ∧ d = some dx ∧ H' dx = some (.xd [("name", v)]) ∧ Rp K H' v dd ∧ ∀ (p : Addr) (H2 : Hp), Same H' H2 → H' p = none → H2 p = some (.lst [.str "step", .str dd.shown]) → Q (.ref p) H2) ∨
  (∃ (dx : Addr) (v : V) (dd : PyData), cls = .ref c.cN ∧ d = some dx ∧ H' dx = some (.xd [("value", v)]) ∧ Rp K H' v dd ∧ ∀ (p : Addr) (H2 : Hp), Same H' H2 → H' p = none → H2 p = some (.lst [.str "number", .str dd.shown]) → Q (.ref p) H2) ∨
  ∃ (r : Str), d = none ∧ ((cls = .ref c.cI ∧ r = "net") ∨ (cls = .ref c.cW ∧ r = "workflow")) ∧ ∀ (p : Addr) (H2 : Hp), Same H' H2 → H' p = none → H2 p = some (.lst [.str r]) → Q (.ref p) H2
def metR (Q : VK) : VK := fun v H' => ∀ (p : Addr) (H2 : Hp), Same H' H2 → H' p = none → H2 p = some (.lst [.str "returned", v]) → Q (.ref p) H2
def TTmet (K : PySem.W.Frag) (c : MetC) : (XK → Hp → VK → Prop) → Hp → VK → Prop := fun tl H Q => tl (metE K c Q) H (metR Q)
abbrev tReprF (K : PySem.W.Frag) (C : Addr) (f w : Str) (a : Addr) (cls : Value) (d : Option Addr) : TS := tRet (tLstS (tCons (tC (.str w)) (tCons (tCB (rReprW K) (tCons (tXf a cls d C f (aVar 1)) tNil)) tNil)))
abbrev tFlow (K : PySem.W.Frag) (c : MetC) (a : Addr) (cls : Value) (d : Option Addr) : TS := tSeq (tAsg (tLstS (tCons (tCB (rIsX K a cls d) (tCons (aVar 1) (tCons (tC (.ref c.cI)) tNil))) (tCons (tCB (rIsX K a cls d) (tCons (aVar 1) (tCons (tC (.ref c.cW)) tNil))) tNil))) (gName 2))
  (tRet (tIf (aTest (tOp (rEqA K) (tBM K "list" (rCntB K) (aVar 2) (tCons (tC (.bl true)) tNil)) (tC (.int 1)))) (tLstS (tCons (tOp (rIxA K) (tLstS (tCons (tC (.str "net")) (tCons (tC (.str "workflow")) tNil))) (tBM K "list" (rIndex K) (aVar 2) (tCons (tC (.bl true)) tNil))) tNil)) (tLstS (tCons (tC (.str "odd")) tNil))))
theorem flow_ok {K : PySem.W.Frag} {c : MetC} {a : Addr} {cls : Value} {d : Option Addr} {D : Ends} {σ : L2.St} {H : Hp} {r : Str} {bI bW : Bool} {E : Addr} (hσ : σ[1]? = some (some (.ref a))) (hl : σ.length = 3) (hc : cls = .ref E) (hd : d = none) (x : XI K E) (k1 : PySem.W.kitOne K (.ref E) (.ref c.cI) = some bI) (k2 : PySem.W.kitOne K (.ref E) (.ref c.cW) = some bW)
    (hr : (bI = true ∧ bW = false ∧ r = "net") ∨ (bI = false ∧ bW = true ∧ r = "workflow")) (q : ∀ (p : Addr) (H2 : Hp), Same H H2 → H p = none → H2 p = some (.lst [.str r]) → D.rt (.ref p) H2) : tFlow K c a cls d D σ H := by
  match σ, hl, hσ with
  | [o0, some (.ref b), o2], _, hσ =>
    cases hσ
    refine ⟨_, _, bI, E, rfl, .own _, hc, hd, x, k1, ?_⟩
    refine ⟨_, _, bW, E, rfl, .own _, hc, hd, x, k2, ?_⟩
    refine ⟨by simp, fun p H1 s1 n1 l1 => ?_⟩
    refine ⟨.inl ⟨rfl, _, SqL.of l1⟩, p, [bI, bW], true, rfl, rfl, SqL.of l1, ?_⟩
    rcases hr with ⟨rfl, rfl, rfl⟩ | ⟨rfl, rfl, rfl⟩
    · unfold tC
      dsimp only [rEqA, aTest]
      refine ite2 (fun _ => ?_) (fun z => absurd (by decide +kernel) z)
      refine ⟨by simp, fun p2 H2 s2 n2 l2 => ?_⟩
      refine ⟨.inl ⟨rfl, _, SqL.of (s2 _ _ l1)⟩, p, _, .bl true, 0, .bl true, rfl, rfl, SqL.of (s2 _ _ l1), rfl, rfl, rfl, rfl, fun m z hm _ => absurd hm (by omega), ?_⟩
      refine .inl ⟨_, .str "net", SqL.of l2, rfl, by simp, fun p3 H3 s3 n3 l3 => ?_⟩
      exact q p3 H3 ((s1.trans s2).trans s3) ((s1.trans s2).free n3) l3
    · unfold tC
      dsimp only [rEqA, aTest]
      refine ite2 (fun _ => ?_) (fun z => absurd (by decide +kernel) z)
      refine ⟨by simp, fun p2 H2 s2 n2 l2 => ?_⟩
      refine ⟨.inl ⟨rfl, _, SqL.of (s2 _ _ l1)⟩, p, _, .bl true, 1, .bl true, rfl, rfl, SqL.of (s2 _ _ l1), rfl, rfl, rfl, rfl, fun m z hm hz => ?_, ?_⟩
      · have : m = 0 := by omega
        subst this
        cases hz
        rfl
      · refine .inl ⟨_, .str "workflow", SqL.of l2, rfl, by simp, fun p3 H3 s3 n3 l3 => ?_⟩
        exact q p3 H3 ((s1.trans s2).trans s3) ((s1.trans s2).free n3) l3
theorem takes_len {X : Cx} {W : WX} (tk : Takes X W) : Takes X (fun cls d σ H => σ.length = X.N.length → W cls d σ H) := fun u s' ⟨a, B, sI, pins, σ, H, cls, d, e, I, nb, up, sky, na, os, ag, w⟩ =>
  tk u s' ⟨a, B, sI, pins, σ, H, cls, d, e, I, nb, up, sky, na, os, ag, w I.len⟩
theorem met_gives {X : Cx} {c : MetC} {g : Addr} {cdg : Value} {q : Str} (hr : RoomG 1 X.A) (T : TxtT X.K X.mg c) : GivesTo X ["call", "e", "kinds"] "_law_met" (defScope s_law_met) g cdg (defBody s_law_met) "call" q (TTmet X.K c) := by
  intro f c' s H Q tl act hc h
  have nd := sc_law_met.nd
  have hu : (X.A.deeper (envOfC "_law_met" (defScope s_law_met) s.heap.objs.size g cdg)).units + 64 < cLine := (hr.deeper _).units64
  have hg : (X.A.deeper (envOfC "_law_met" (defScope s_law_met) s.heap.objs.size g cdg)).guards = some [] := hr.g
  refine ⟨_, pss_one (ps_try_asm (i := 1) (X := (cxOf C8.CX0 X.prog X.w X.K X.mg X.base ["call", "e", "kinds"] "_law_met" (defScope s_law_met) g cdg X.A X.stack s H C8.E0).nox) (Wout := fun _ _ _ _ => False)
      (tb := fun W D σ H => ∃ Ech : XK, (∀ cls d σ' H', σ'.length = 3 → Ech cls d H' → W cls d σ' H') ∧ σ[0]? = some (some (.ref f)) ∧ H c' = some (CodeO c' q) ∧ tl Ech H (metR D.rt))
      (l := [(.ref c.cS, fun a cls d => tReprF X.K c.cS "name" "step" a cls d), (.ref c.cN, fun a cls d => tReprF X.K c.cN "value" "number" a cls d), (.ref c.cF, fun a cls d => tFlow X.K c a cls d)])
      rfl rfl nd rfl rfl L2.takes0 (fun W pn xe tk _ => ?_) ?_), ?_⟩
  · refine ⟨fun pins s' σ H' D I h' => ?_⟩
    obtain ⟨Ech, hW, h1, h2, h3⟩ := h'
    refine PSs.run (t := tRet (tLstS (tCons (tC (.str "returned")) (tCons (tUp (fun σZ HZ Q => σZ[0]? = some (some (.ref f)) ∧ HZ c' = some (CodeO c' q) ∧ tl Ech HZ Q)) tNil)))) (pss_one (ps_ret (pe_lstS (pa_cons pe_str (pa_cons (PE.up (act (fun cls d σ' H' => σ'.length = 3 → W cls d σ' H') pn xe Ech _ _ (takes_len tk) fun cls d σ' H' e hl => hW cls d σ' H' hl e)) pa_nil))))) pins s' σ H' D I ⟨metR D.rt, ⟨h1, h2, h3⟩, fun v H1 k => ⟨by simp, fun p H2 s2 n2 l2 => k p H2 s2 n2 l2⟩⟩
  · refine .cons ⟨rfl, by decide, .inl T.gS⟩ (fun a oe cls d pn hz hf => pss_one (ps_ret (pe_lstS (pa_cons pe_str (pa_cons (pe_callB (call_reprW hu hg) (by rfl) T.repr (by decide +kernel) (pa_cons (pe_xf T.xS T.nS hz hf (av 1)) pa_nil)) pa_nil))))) ?_
    refine .cons ⟨rfl, by decide, .inl T.gN⟩ (fun a oe cls d pn hz hf => pss_one (ps_ret (pe_lstS (pa_cons pe_str (pa_cons (pe_callB (call_reprW hu hg) (by rfl) T.repr (by decide +kernel) (pa_cons (pe_xf T.xN T.nN hz hf (av 1)) pa_nil)) pa_nil))))) ?_
    refine .cons ⟨rfl, by decide, .inl T.gF⟩ (fun a oe cls d pn hz hf => ?_) .nil
    exact pss_cons (ps_set (i := 2) nd rfl (Or.inl rfl) (pe_lstS (pa_cons (pe_callB (call_isX hz hf) (by rfl) T.isinstance (by decide +kernel) (pa_cons (av 1) (pa_cons (pe_gref T.gI) pa_nil))) (pa_cons (pe_callB (call_isX hz hf) (by rfl) T.isinstance (by decide +kernel) (pa_cons (av 1) (pa_cons (pe_gref T.gW) pa_nil))) pa_nil))))
      (pss_one (ps_ret (pe_ifExp (pt_cmpA (op_eqA hu) (pe_bm PySem.F.plainAttrs_list PySem.F.slot_list_count PySem.F.type_list_count mt_bcount (av 2) (pa_cons pe_bl pa_nil)) pe_int) (pe_lstS (pa_cons (pe_ixA (pe_lstS (pa_cons pe_str (pa_cons pe_str pa_nil))) (pe_bm PySem.F.plainAttrs_list PySem.F.slot_list_index PySem.F.type_list_index mt_index (av 2) (pa_cons pe_bl pa_nil))) pa_nil)) (pe_lstS (pa_cons pe_str pa_nil)))))
  · refine ⟨metE X.K c Q, fun cls d σ' H' hl hE => ?_, rfl, hc, h⟩
    match σ', hl with
    | [o0, o1, o2], _ =>
      rcases hE with ⟨dx, v, dd, rfl, rfl, ex, rp, k⟩ | ⟨dx, v, dd, rfl, rfl, ex, rp, k⟩ | ⟨r, rfl, hr2, k⟩
      · refine ⟨true, T.eSS, fun _ a na => ?_, fun z => nomatch z⟩
        refine ⟨rfl, rfl, dx, _, v, rfl, ex, by simp [List.lookup], v, dd, rfl, rp.dq, rp.sb, rp.dp, rp.sz, by simp, fun p H2 s2 n2 l2 => k p H2 s2 n2 l2⟩
      · refine ⟨false, T.eNS, fun z => (nomatch z), fun _ => ⟨true, T.eNN, fun _ a na => ?_, fun z => (nomatch z)⟩⟩
        refine ⟨rfl, rfl, dx, _, v, rfl, ex, by simp [List.lookup], v, dd, rfl, rp.dq, rp.sb, rp.dp, rp.sz, by simp, fun p H2 s2 n2 l2 => k p H2 s2 n2 l2⟩
      · rcases hr2 with ⟨rfl, rfl⟩ | ⟨rfl, rfl⟩
        · exact ⟨false, T.eIS, fun z => (nomatch z), fun _ => ⟨false, T.eIN, fun z => (nomatch z), fun _ => ⟨true, T.eIF, fun _ a na => flow_ok (E := c.cI) (a := a) rfl rfl rfl rfl T.xI T.kII T.kIW (.inl ⟨rfl, rfl, rfl⟩) k, fun z => (nomatch z)⟩⟩⟩
        · exact ⟨false, T.eWS, fun z => (nomatch z), fun _ => ⟨false, T.eWN, fun z => (nomatch z), fun _ => ⟨true, T.eWF, fun _ a na => flow_ok (E := c.cW) (a := a) rfl rfl rfl rfl T.xW T.kWI T.kWW (.inr ⟨rfl, rfl, rfl⟩) k, fun z => (nomatch z)⟩⟩⟩
end K01

set_option Elab.async false
set_option linter.all false
set_option maxRecDepth 100000
set_option maxHeartbeats 4000000
namespace K01
open PySem L2 PySem.KX
abbrev scopied : Stmt := top 13
theorem sccopied : FnScope ["value", "part", "key"] ["value"] (defScope scopied) := ⟨rfl, rfl, rfl, by decide +kernel, rfl, by decide +kernel, by decide +kernel⟩
theorem DqAll_snoc {K : PySem.W.Frag} {H : Hp} {v : V} {d : PyData} : ∀ {vs : List V} {ds : List PyData}, DqAll K H vs ds → Dq K H v d → DqAll K H (vs ++ [v]) (ds ++ [d])
  | _, _, .nil, h => .cons h .nil
  | _, _, .cons h1 t, h => .cons h1 (DqAll_snoc t h)
theorem pe_never {X : Cx} {e : Expr} : PE X e (fun _ _ _ => False) := ⟨fun _ _ _ _ _ _ h => h.elim⟩
section
variable {P : Program} {w : World} {K : PySem.W.Frag} {mg : Str → Option Value} {base : Heap}
/-- copied(v), v data that lies beside B: the same data, beside B too -/
def spCop (K : PySem.W.Frag) (n : Nat) : Sp := fun vs H Q _ => ∃ (v : V) (d : PyData) (B : List Addr), vs = [v] ∧ Dq K (hide B H) v d ∧ d.depth ≤ n ∧ smQ d = true ∧ (∀ b ∈ B, H b ≠ none) ∧
  ∀ v' H', Same H H' → Dq K (hide B H') v' d → Q v' H'
structure TxtC (mg : Str → Option Value) : Prop where
  isinstance : mg "isinstance" = none
  list : mg "list" = none
  tuple : mg "tuple" = none
  dict : mg "dict" = none
theorem ok_copied_step {f : Addr} {fd : FuncData} (F : Fun K "copied" "copied" scopied f fd) (T : TxtC mg) (n : Nat) (Oc : ∀ m, n = m + 1 → OwnK P w K mg base CX0 "copied" (m + 1) ["value"] (spCop K m)) : FnOk P w K mg base CX0 (n + 1) f fd ["value"] (spCop K n) := by
  have nd := sccopied.nd
  refine F.ok sccopied (fun vs H Q E h => ?_) (fun cdv A outer s H vs Q E hr h => ?_)
  · obtain ⟨v, d, B, rfl, _⟩ := h
    rfl
  · obtain ⟨v, d, B, rfl, hd, hn, hsm, hB, k⟩ := h
    cases d with
    | list ds =>
      have hn' : PyData.depthAll ds + 1 ≤ n := by simpa only [PyData.depth] using hn
      obtain ⟨m, hm⟩ : ∃ m, n = m + 1 := ⟨n - 1, by omega⟩
      obtain ⟨hsz, hsm2⟩ := smQ_lst hsm
      refine ⟨_, (pss_cons (ps_if (pt_valA (pe_callB call_isiA (by rfl) T.isinstance (by decide +kernel) (pa_cons (av 0) (pa_cons (pe_bltn (v := .ty "list") (u := .type "list") rfl T.list (by decide +kernel) rfl) pa_nil)))) (pss_one (ps_ret (pe_lc (own := [("part", 1)]) (by rfl) nd (pi_list (av 0)) (blkOk_by (N := ["value", "part", "key"]) (sc := defScope scopied) (by decide +kernel)) (fun _ _ _ _ _ => (pg_name (i := 1) nd rfl (Or.inl rfl))) (fun _ _ _ _ _ => pts_nil) (fun _ _ _ _ _ => (pe_ownK (Oc m hm) hr (pa_cons (av 1) pa_nil) (by omega)))))) pss_nil) pss_never), ?_⟩
      refine ⟨_, _, _, _, true, rfl, .ty _, (Dq.same hide_sub _ _ hd).ty, kit_ty (show kitB "list" "list" = some true by decide +kernel), ?_⟩
      refine iteT ?_
      cases hd with
      | @lst a xs _ hs ha =>
            have hs' := hide_sub.sqL hs
            refine ⟨a, rfl, ⟨_, hs'⟩, fun D hD => ?_⟩
            have hDB : D ∉ B := fun z => hB D z hD
            refine lc_list (K := K) (a := a) (xs := xs) (fun i H' => ∃ acc, H' D = some (.lst acc) ∧ Same H H' ∧ DqAll K (hide (D :: B) H') acc (ds.take i)) ⟨[], upd_same, (Same.refl H).new hD, .nil⟩ (fun i H' _ ⟨_, _, s5, _⟩ => s5.sqL hs') ?_ ?_
            · rintro i x H' hi ⟨acc, hDa, s5, hacc⟩
              obtain ⟨dx, hdx, hx⟩ := ha.get hi
              refine ⟨rfl, x, dx, D :: B, rfl, ?_, by have := depth_mem hdx; omega, smQ_mem hsm2 hdx, ?_, fun v' H2 s6 hv => ?_⟩
              · refine Dq.same (fun b o e => ?_) dx x hx
                obtain ⟨e1, e2⟩ := hide_of e
                have nb : b ≠ D := fun z => by rw [z, hD] at e1; cases e1
                rw [hide_in (fun z => (List.mem_cons.mp z).elim nb e2)]
                exact s5 _ _ e1
              · intro b hb2
                rcases List.mem_cons.mp hb2 with z | z
                · rw [z, hDa]; exact fun y => nomatch y
                · have := hB b z
                  cases q : H b with
                  | none => exact absurd q this
                  | some o => rw [s5 b o q]; exact fun y => nomatch y
              · have hD2 := s6 _ _ hDa
                have hl : acc.length ≤ i := by
                  have := hacc.length
                  rw [List.length_take] at this
                  omega
                have hi' : i < xs.length := (List.getElem?_eq_some_iff.mp hi).1
                refine ⟨acc, hD2, by have := ha.length; show acc.length < 16777216; omega, acc ++ [v'], upd_same, fun b o e => ?_, ?_⟩
                · have nb : b ≠ D := fun z => by rw [z, hD] at e; cases e
                  rw [upd_ne nb]
                  exact s6 _ _ (s5 _ _ e)
                · rw [hide_upd]
                  have e : ds.take (i + 1) = ds.take i ++ [dx] := by
                    rw [List.take_add_one, hdx]
                    rfl
                  rw [e]
                  exact DqAll_snoc (DqAll.same (hide_same s6) _ _ hacc) hv
            · rintro H' ⟨acc, hDa, s5, hacc⟩
              rw [ha.length, List.take_length] at hacc
              exact k _ _ s5 (.lst (SqL.of (by rw [hide_in hDB]; exact hDa)) (DqAll.same hide_more _ _ hacc))
    | tuple ds =>
      have hn' : PyData.depthAll ds + 1 ≤ n := by simpa only [PyData.depth] using hn
      obtain ⟨m, hm⟩ : ∃ m, n = m + 1 := ⟨n - 1, by omega⟩
      obtain ⟨hsz, hsm2⟩ := smQ_tup hsm
      refine ⟨_, (pss_cons (ps_if (pt_valA (pe_callB call_isiA (by rfl) T.isinstance (by decide +kernel) (pa_cons (av 0) (pa_cons (pe_bltn (v := .ty "list") (u := .type "list") rfl T.list (by decide +kernel) rfl) pa_nil)))) pss_never pss_nil)
      (pss_cons (ps_if (pt_valA (pe_callB call_isiA (by rfl) T.isinstance (by decide +kernel) (pa_cons (av 0) (pa_cons (pe_bltn (v := .ty "tuple") (u := .type "tuple") rfl T.tuple (by decide +kernel) rfl) pa_nil)))) (pss_one (ps_ret (pe_callTy call_tupleA (by rfl) T.tuple (by decide +kernel) (pa_cons (pe_lc (own := [("part", 1)]) (by rfl) nd (pi_tup (av 0)) (blkOk_by (N := ["value", "part", "key"]) (sc := defScope scopied) (by decide +kernel)) (fun _ _ _ _ _ => (pg_name (i := 1) nd rfl (Or.inl rfl))) (fun _ _ _ _ _ => pts_nil) (fun _ _ _ _ _ => (pe_ownK (Oc m hm) hr (pa_cons (av 1) pa_nil) (by omega)))) pa_nil)))) pss_nil) pss_never)), ?_⟩
      refine ⟨_, _, _, _, false, rfl, .ty _, (Dq.same hide_sub _ _ hd).ty, kit_ty (show kitB "tuple" "list" = some false by decide +kernel), ?_⟩
      refine iteF ?_
      refine ⟨_, _, _, _, true, rfl, .ty _, (Dq.same hide_sub _ _ hd).ty, kit_ty (show kitB "tuple" "tuple" = some true by decide +kernel), ?_⟩
      refine iteT ?_
      cases hd with
      | @tup a xs _ hs ha =>
            have hs' := hide_sub.sqT hs
            refine ⟨a, rfl, ⟨_, hs'⟩, fun D hD => ?_⟩
            have hDB : D ∉ B := fun z => hB D z hD
            refine lc_tup (K := K) (a := a) (xs := xs) (fun i H' => ∃ acc, H' D = some (.lst acc) ∧ Same H H' ∧ DqAll K (hide (D :: B) H') acc (ds.take i)) ⟨[], upd_same, (Same.refl H).new hD, .nil⟩ (fun i H' _ ⟨_, _, s5, _⟩ => s5.sqT hs') ?_ ?_
            · rintro i x H' hi ⟨acc, hDa, s5, hacc⟩
              obtain ⟨dx, hdx, hx⟩ := ha.get hi
              refine ⟨rfl, x, dx, D :: B, rfl, ?_, by have := depth_mem hdx; omega, smQ_mem hsm2 hdx, ?_, fun v' H2 s6 hv => ?_⟩
              · refine Dq.same (fun b o e => ?_) dx x hx
                obtain ⟨e1, e2⟩ := hide_of e
                have nb : b ≠ D := fun z => by rw [z, hD] at e1; cases e1
                rw [hide_in (fun z => (List.mem_cons.mp z).elim nb e2)]
                exact s5 _ _ e1
              · intro b hb2
                rcases List.mem_cons.mp hb2 with z | z
                · rw [z, hDa]; exact fun y => nomatch y
                · have := hB b z
                  cases q : H b with
                  | none => exact absurd q this
                  | some o => rw [s5 b o q]; exact fun y => nomatch y
              · have hD2 := s6 _ _ hDa
                have hl : acc.length ≤ i := by
                  have := hacc.length
                  rw [List.length_take] at this
                  omega
                have hi' : i < xs.length := (List.getElem?_eq_some_iff.mp hi).1
                refine ⟨acc, hD2, by have := ha.length; show acc.length < 16777216; omega, acc ++ [v'], upd_same, fun b o e => ?_, ?_⟩
                · have nb : b ≠ D := fun z => by rw [z, hD] at e; cases e
                  rw [upd_ne nb]
                  exact s6 _ _ (s5 _ _ e)
                · rw [hide_upd]
                  have e : ds.take (i + 1) = ds.take i ++ [dx] := by
                    rw [List.take_add_one, hdx]
                    rfl
                  rw [e]
                  exact DqAll_snoc (DqAll.same (hide_same s6) _ _ hacc) hv
            · rintro H' ⟨acc, hDa, s5, hacc⟩
              rw [ha.length, List.take_length] at hacc
              refine .inl ⟨_, SqL.of hDa, fun l hl => ?_⟩
              have hlB : l ∉ B := fun z => by
                have := hB l z
                cases q : H l with
                | none => exact this q
                | some o => rw [s5 l o q] at hl; cases hl
              refine k _ _ (s5.new hl) (.tup (SqT.of (by rw [hide_in hlB]; exact upd_same)) (DqAll.same (fun b o e => ?_) _ _ hacc))
              obtain ⟨e1, e2⟩ := hide_of e
              rw [hide_in (fun z => e2 (List.mem_cons_of_mem _ z)), upd_ne (ne_of_none e1 hl)]
              exact e1
    | dict kvs =>
      cases hd with
      | @emp a he =>
        obtain ⟨hea, haB⟩ := hide_of he
        refine ⟨_, (pss_cons (ps_if (pt_valA (pe_callB call_isiA (by rfl) T.isinstance (by decide +kernel) (pa_cons (av 0) (pa_cons (pe_bltn (v := .ty "list") (u := .type "list") rfl T.list (by decide +kernel) rfl) pa_nil)))) pss_never pss_nil)
      (pss_cons (ps_if (pt_valA (pe_callB call_isiA (by rfl) T.isinstance (by decide +kernel) (pa_cons (av 0) (pa_cons (pe_bltn (v := .ty "tuple") (u := .type "tuple") rfl T.tuple (by decide +kernel) rfl) pa_nil)))) pss_never pss_nil)
      (pss_cons (ps_if (pt_valA (pe_callB call_isiA (by rfl) T.isinstance (by decide +kernel) (pa_cons (av 0) (pa_cons (pe_bltn (v := .ty "dict") (u := .type "dict") rfl T.dict (by decide +kernel) rfl) pa_nil)))) (pss_one (ps_ret (pe_lock (pe_dc (own := [("key", 2)]) (by rfl) nd (pi_keys (av 0)) (blkOk_by (N := ["value", "part", "key"]) (sc := defScope scopied) (by decide +kernel)) (fun _ _ _ _ _ => (pg_name (i := 2) nd rfl (Or.inl rfl))) (fun _ _ _ _ _ => pts_nil) (fun _ _ _ _ _ => pe_never) (fun _ _ _ _ _ => pe_never))))) pss_nil) pss_never))), ?_⟩
        have ty : TyE K H (.ref a) (.type "dict") := .x (.base (.dK hea))
        refine ⟨_, _, _, _, false, rfl, .ty _, ty, kit_ty (show kitB "dict" "list" = some false by decide +kernel), ?_⟩
        refine iteF ?_
        refine ⟨_, _, _, _, false, rfl, .ty _, ty, kit_ty (show kitB "dict" "tuple" = some false by decide +kernel), ?_⟩
        refine iteF ?_
        refine ⟨_, _, _, _, true, rfl, .ty _, ty, kit_ty (show kitB "dict" "dict" = some true by decide +kernel), ?_⟩
        refine iteT ⟨a, _, hea, True.intro, fun od => ⟨a, od, rfl, .inl ⟨[], upd_same, fun D hD => ?_⟩⟩⟩
        have hDa : D ≠ a := fun z => by
          rw [z, upd_same] at hD
          cases hD
        have hDH : H D = none := by
          rw [upd_ne hDa] at hD
          exact hD
        have hDB : D ∉ B := fun z => hB D z hDH
        refine ⟨fun i m H' => H' = upd (upd H a (.frz od (.dK []))) D (.dK []), ⟨0, rfl⟩, fun i m H' e => .inl ?_⟩
        subst e
        have ea : upd (upd H a (.frz od (.dK []))) D (.dK []) a = some (.frz od (.dK [])) := by rw [upd_ne (Ne.symm hDa), upd_same]
        refine ⟨⟨ea, Nat.zero_le _⟩, ea, k _ _ (fun b o e => ?_) (.emp ?_)⟩
        · by_cases hb : b = a
          · subst hb
            rw [upd_same, ← hea, e]
          · rw [upd_ne hb, upd_ne (ne_of_none e hDH), upd_ne hb]
            exact e
        · rw [hide_in hDB, upd_ne hDa, upd_same]
    | none  =>
      refine ⟨_, (pss_cons (ps_if (pt_valA (pe_callB call_isiA (by rfl) T.isinstance (by decide +kernel) (pa_cons (av 0) (pa_cons (pe_bltn (v := .ty "list") (u := .type "list") rfl T.list (by decide +kernel) rfl) pa_nil)))) pss_never pss_nil)
      (pss_cons (ps_if (pt_valA (pe_callB call_isiA (by rfl) T.isinstance (by decide +kernel) (pa_cons (av 0) (pa_cons (pe_bltn (v := .ty "tuple") (u := .type "tuple") rfl T.tuple (by decide +kernel) rfl) pa_nil)))) pss_never pss_nil)
      (pss_cons (ps_if (pt_valA (pe_callB call_isiA (by rfl) T.isinstance (by decide +kernel) (pa_cons (av 0) (pa_cons (pe_bltn (v := .ty "dict") (u := .type "dict") rfl T.dict (by decide +kernel) rfl) pa_nil)))) pss_never pss_nil)
      (pss_one (ps_ret (av 0)))))), ?_⟩
      refine ⟨_, _, _, _, false, rfl, .ty _, (Dq.same hide_sub _ _ hd).ty, kit_ty (show kitB "NoneType" "list" = some false by decide +kernel), ?_⟩
      refine iteF ?_
      refine ⟨_, _, _, _, false, rfl, .ty _, (Dq.same hide_sub _ _ hd).ty, kit_ty (show kitB "NoneType" "tuple" = some false by decide +kernel), ?_⟩
      refine iteF ?_
      refine ⟨_, _, _, _, false, rfl, .ty _, (Dq.same hide_sub _ _ hd).ty, kit_ty (show kitB "NoneType" "dict" = some false by decide +kernel), ?_⟩
      refine iteF ?_
      exact k _ _ (Same.refl H) hd
    | bool b =>
      refine ⟨_, (pss_cons (ps_if (pt_valA (pe_callB call_isiA (by rfl) T.isinstance (by decide +kernel) (pa_cons (av 0) (pa_cons (pe_bltn (v := .ty "list") (u := .type "list") rfl T.list (by decide +kernel) rfl) pa_nil)))) pss_never pss_nil)
      (pss_cons (ps_if (pt_valA (pe_callB call_isiA (by rfl) T.isinstance (by decide +kernel) (pa_cons (av 0) (pa_cons (pe_bltn (v := .ty "tuple") (u := .type "tuple") rfl T.tuple (by decide +kernel) rfl) pa_nil)))) pss_never pss_nil)
      (pss_cons (ps_if (pt_valA (pe_callB call_isiA (by rfl) T.isinstance (by decide +kernel) (pa_cons (av 0) (pa_cons (pe_bltn (v := .ty "dict") (u := .type "dict") rfl T.dict (by decide +kernel) rfl) pa_nil)))) pss_never pss_nil)
      (pss_one (ps_ret (av 0)))))), ?_⟩
      refine ⟨_, _, _, _, false, rfl, .ty _, (Dq.same hide_sub _ _ hd).ty, kit_ty (show kitB "bool" "list" = some false by decide +kernel), ?_⟩
      refine iteF ?_
      refine ⟨_, _, _, _, false, rfl, .ty _, (Dq.same hide_sub _ _ hd).ty, kit_ty (show kitB "bool" "tuple" = some false by decide +kernel), ?_⟩
      refine iteF ?_
      refine ⟨_, _, _, _, false, rfl, .ty _, (Dq.same hide_sub _ _ hd).ty, kit_ty (show kitB "bool" "dict" = some false by decide +kernel), ?_⟩
      refine iteF ?_
      exact k _ _ (Same.refl H) hd
    | int i =>
      refine ⟨_, (pss_cons (ps_if (pt_valA (pe_callB call_isiA (by rfl) T.isinstance (by decide +kernel) (pa_cons (av 0) (pa_cons (pe_bltn (v := .ty "list") (u := .type "list") rfl T.list (by decide +kernel) rfl) pa_nil)))) pss_never pss_nil)
      (pss_cons (ps_if (pt_valA (pe_callB call_isiA (by rfl) T.isinstance (by decide +kernel) (pa_cons (av 0) (pa_cons (pe_bltn (v := .ty "tuple") (u := .type "tuple") rfl T.tuple (by decide +kernel) rfl) pa_nil)))) pss_never pss_nil)
      (pss_cons (ps_if (pt_valA (pe_callB call_isiA (by rfl) T.isinstance (by decide +kernel) (pa_cons (av 0) (pa_cons (pe_bltn (v := .ty "dict") (u := .type "dict") rfl T.dict (by decide +kernel) rfl) pa_nil)))) pss_never pss_nil)
      (pss_one (ps_ret (av 0)))))), ?_⟩
      refine ⟨_, _, _, _, false, rfl, .ty _, (Dq.same hide_sub _ _ hd).ty, kit_ty (show kitB "int" "list" = some false by decide +kernel), ?_⟩
      refine iteF ?_
      refine ⟨_, _, _, _, false, rfl, .ty _, (Dq.same hide_sub _ _ hd).ty, kit_ty (show kitB "int" "tuple" = some false by decide +kernel), ?_⟩
      refine iteF ?_
      refine ⟨_, _, _, _, false, rfl, .ty _, (Dq.same hide_sub _ _ hd).ty, kit_ty (show kitB "int" "dict" = some false by decide +kernel), ?_⟩
      refine iteF ?_
      exact k _ _ (Same.refl H) hd
    | str z =>
      refine ⟨_, (pss_cons (ps_if (pt_valA (pe_callB call_isiA (by rfl) T.isinstance (by decide +kernel) (pa_cons (av 0) (pa_cons (pe_bltn (v := .ty "list") (u := .type "list") rfl T.list (by decide +kernel) rfl) pa_nil)))) pss_never pss_nil)
      (pss_cons (ps_if (pt_valA (pe_callB call_isiA (by rfl) T.isinstance (by decide +kernel) (pa_cons (av 0) (pa_cons (pe_bltn (v := .ty "tuple") (u := .type "tuple") rfl T.tuple (by decide +kernel) rfl) pa_nil)))) pss_never pss_nil)
      (pss_cons (ps_if (pt_valA (pe_callB call_isiA (by rfl) T.isinstance (by decide +kernel) (pa_cons (av 0) (pa_cons (pe_bltn (v := .ty "dict") (u := .type "dict") rfl T.dict (by decide +kernel) rfl) pa_nil)))) pss_never pss_nil)
      (pss_one (ps_ret (av 0)))))), ?_⟩
      refine ⟨_, _, _, _, false, rfl, .ty _, (Dq.same hide_sub _ _ hd).ty, kit_ty (show kitB "str" "list" = some false by decide +kernel), ?_⟩
      refine iteF ?_
      refine ⟨_, _, _, _, false, rfl, .ty _, (Dq.same hide_sub _ _ hd).ty, kit_ty (show kitB "str" "tuple" = some false by decide +kernel), ?_⟩
      refine iteF ?_
      refine ⟨_, _, _, _, false, rfl, .ty _, (Dq.same hide_sub _ _ hd).ty, kit_ty (show kitB "str" "dict" = some false by decide +kernel), ?_⟩
      refine iteF ?_
      exact k _ _ (Same.refl H) hd
end
end K01

set_option Elab.async false
set_option linter.all false
set_option maxRecDepth 100000
set_option maxHeartbeats 4000000
namespace K01
open PySem L2 PySem.KX
section
variable {P : Program} {w : World} {K : PySem.W.Frag} {mg : Str → Option Value} {base : Heap}
theorem ini_end {K : PySem.W.Frag} {H H2 : Hp} {a C dx : Addr} {v' : V} {d : PyData} {f : Str} {Q : VK} (e : H a = some (exo a C none)) (s6 : Same H H2) (hv : Dq K (hide [a] H2) v' d) (h1 : H2 dx = none) (h2 : dx ≠ a)
    (k : ∀ (H' : Hp) (dx : Addr) (v' : V), (∀ b o, b ≠ a → H b = some o → H' b = some o) → H dx = none → H' a = some (exo a C (some dx)) → H' dx = some (exd dx [(f, v')]) → Dq K H' v' d → Q .non H') :
    Q .non (upd (upd H2 dx (exd dx [(f, v')])) a (exo a C (some dx))) := by
  refine k _ dx v' (fun b o hb q => ?_) (s6.free h1) upd_same (by rw [upd_ne h2, upd_same]) (Dq.same (fun b o q => ?_) _ _ hv)
  · rw [upd_ne hb, upd_ne (ne_of_none (s6 b o q) h1)]
    exact s6 b o q
  · obtain ⟨q1, q2⟩ := hide_of q
    have hb : b ≠ a := fun z => q2 (by rw [z]; exact List.mem_cons_self)
    rw [upd_ne hb, upd_ne (ne_of_none q1 h1)]
    exact q1
abbrev sUnknownStep : Stmt := inClass (top 11) 0
theorem scUnknownStep : FnScope ["self", "name"] ["self", "name"] (defScope sUnknownStep) := ⟨rfl, rfl, rfl, by decide +kernel, rfl, by decide +kernel, by decide +kernel⟩
theorem ok_UnknownStep {f C : Addr} {fd : FuncData} (F : Fun K "__init__" "UnknownStep.__init__" sUnknownStep f fd) (hb : mg "KeyError" = none) (T : XCls K C "LookupError.__new__" tKey) (hno : PySem.W.findIn K (.ref C) "name" = some none)
    (vV : PySem.W.findCls K (.type "KeyError") (.type "type") "__init__" = some (.val (.builtin "KeyError.__init__"))) (Oc : OwnK P w K mg base CX0 "copied" 11 ["value"] (spCop K 10)) : FnOk P w K mg base CX0 12 f fd ["self", "name"] (spIniQ K C "name") := by
  have nd := scUnknownStep.nd
  refine F.ok scUnknownStep (fun vs H Q E h => ?_) (fun cdv A outer s H vs Q E hr h => ?_)
  · obtain ⟨a, v, d, rfl, _⟩ := h
    rfl
  · obtain ⟨a, v, d, rfl, e, hd, hn, hs, k⟩ := h
    refine ⟨_, (pss_cons (ps_expr (pe_xini xb_KeyError hb (by decide +kernel) (by kernel_rfl) (by decide +kernel) (by decide +kernel) vV (pa_cons (av 0) (pa_cons pe_str pa_nil))))
      (pss_one (ps_xs xb_KeyError (av 0) (pe_ownK Oc hr (pa_cons (av 1) pa_nil) (by decide))))), ?_⟩
    refine ⟨a, C, _, rfl, by decide, T, e, ?_⟩
    refine ⟨v, d, [a], rfl, hd, hn, hs, fun b hb2 => ?_, fun v' H2 s6 hv => ?_⟩
    · have : b = a := by simpa using hb2
      rw [this, e]
      exact fun y => nomatch y
    · refine ⟨a, C, rfl, T, hno, s6 _ _ e, fun dx h1 h2 => ?_⟩
      exact ini_end e s6 hv h1 h2 k
abbrev sInvalidNumber : Stmt := inClass (top 12) 0
theorem scInvalidNumber : FnScope ["self", "value"] ["self", "value"] (defScope sInvalidNumber) := ⟨rfl, rfl, rfl, by decide +kernel, rfl, by decide +kernel, by decide +kernel⟩
theorem ok_InvalidNumber {f C : Addr} {fd : FuncData} (F : Fun K "__init__" "InvalidNumber.__init__" sInvalidNumber f fd) (hb : mg "IndexError" = none) (T : XCls K C "IndexError.__new__" tIndex) (hno : PySem.W.findIn K (.ref C) "value" = some none)
    (vV : PySem.W.findCls K (.type "IndexError") (.type "type") "__init__" = some (.val (.builtin "IndexError.__init__"))) (Oc : OwnK P w K mg base CX0 "copied" 11 ["value"] (spCop K 10)) : FnOk P w K mg base CX0 12 f fd ["self", "value"] (spIniQ K C "value") := by
  have nd := scInvalidNumber.nd
  refine F.ok scInvalidNumber (fun vs H Q E h => ?_) (fun cdv A outer s H vs Q E hr h => ?_)
  · obtain ⟨a, v, d, rfl, _⟩ := h
    rfl
  · obtain ⟨a, v, d, rfl, e, hd, hn, hs, k⟩ := h
    refine ⟨_, (pss_cons (ps_expr (pe_xini xb_IndexError hb (by decide +kernel) (by kernel_rfl) (by decide +kernel) (by decide +kernel) vV (pa_cons (av 0) (pa_cons pe_str pa_nil))))
      (pss_one (ps_xs xb_IndexError (av 0) (pe_ownK Oc hr (pa_cons (av 1) pa_nil) (by decide))))), ?_⟩
    refine ⟨a, C, _, rfl, by decide, T, e, ?_⟩
    refine ⟨v, d, [a], rfl, hd, hn, hs, fun b hb2 => ?_, fun v' H2 s6 hv => ?_⟩
    · have : b = a := by simpa using hb2
      rw [this, e]
      exact fun y => nomatch y
    · refine ⟨a, C, rfl, T, hno, s6 _ _ e, fun dx h1 h2 => ?_⟩
      exact ini_end e s6 hv h1 h2 k
end
end K01

set_option Elab.async false
set_option linter.all false
set_option maxRecDepth 100000
set_option maxHeartbeats 4000000
namespace K01
open PySem L2 PySem.KX
abbrev bmVE : List Value := [.type "ValueError", .type "Exception", .type "BaseException", .type "object"]
abbrev FVE := PySem.F.excBase_ValueError
abbrev sstep_names : Stmt := top 19
theorem scstep_names : FnScope ["net", "step"] ["net"] (defScope sstep_names) := ⟨rfl, rfl, rfl, by decide +kernel, rfl, by decide +kernel, by decide +kernel⟩
abbrev sinputs_of : Stmt := top 20
theorem scinputs_of : FnScope ["net", "name"] ["net", "name"] (defScope sinputs_of) := ⟨rfl, rfl, rfl, by decide +kernel, rfl, by decide +kernel, by decide +kernel⟩
abbrev soutputs_of : Stmt := top 21
theorem scoutputs_of : FnScope ["net", "name"] ["net", "name"] (defScope soutputs_of) := ⟨rfl, rfl, rfl, by decide +kernel, rfl, by decide +kernel, by decide +kernel⟩
abbrev scheck_net : Stmt := top 22
theorem sccheck_net : FnScope ["net"] ["net"] (defScope scheck_net) := ⟨rfl, rfl, rfl, by decide +kernel, rfl, by decide +kernel, by decide +kernel⟩
abbrev sfind_step : Stmt := top 23
theorem scfind_step : FnScope ["net", "name", "step"] ["net", "name"] (defScope sfind_step) := ⟨rfl, rfl, rfl, by decide +kernel, rfl, by decide +kernel, by decide +kernel⟩
theorem net_is {d : PyData} (h : netD d = true) : ∃ n es, d = .tuple [.int n, .tuple es] ∧ es.all (stepD n) = true ∧ es.length ≤ 40 := by
  cases d with
  | tuple ds =>
    by_cases h2 : ds.length = 2
    · obtain ⟨a, b, rfl⟩ := len2 h2
      cases a with
      | int n =>
        cases b with
        | tuple es =>
          have e : netD (.tuple [.int n, .tuple es]) = ((decide (2 ≤ n) && decide (n ≤ 30)) && ((decide (1 ≤ es.length) && decide (es.length ≤ 40)) && (es.all (stepD n) && ascD (es.map firstD)))) := rfl
          rw [e] at h
          simp only [Bool.and_eq_true, decide_eq_true_eq] at h
          exact ⟨n, es, rfl, h.2.2.1, h.2.1.2⟩
        | _ => cases h
      | _ => cases h
    · rw [net2 h2] at h
      cases h
  | _ => cases h
section
variable {P : Program} {w : World} {K : PySem.W.Frag} {mg : Str → Option Value} {base : Heap}
def spChk (K : PySem.W.Frag) (cI : Addr) (p : PyData → Bool) : Sp := fun vs H Q E => ∃ (v : V) (d : PyData), vs = [v] ∧ Wd K H v d ∧ (p d = true → ∀ H', Same H H' → Q .non H') ∧ (p d = false → ∀ H', Same H H' → E (.ref cI) none H')
theorem ok_check_net {f cI : Addr} {fd : FuncData} (F : Fun K "check_net" "check_net" scheck_net f fd) (Ei : ErrM K mg "InvalidNet" cI "ValueError.__new__" bmVE) (tI : PySem.W.typeIn K (.ref cI) = some (.type "type")) (Ois_net : Own P w K mg base CX0 "is_net" 5 ["value"] (spN K netD)) :
    FnG P w K mg base (L2.CX P w) 6 f fd ["net"] (spChk K cI netD) := by
  have nd := sccheck_net.nd
  refine okGX F sccheck_net (fun vs H Q E h => ?_) (fun cdv A outer s H vs Q E hr h => ?_)
  · obtain ⟨_, _, rfl, _⟩ := h
    rfl
  · obtain ⟨v, d, rfl, hd, k1, k2⟩ := h
    refine ⟨_, (pss_one (ps_if (pt_not (pt_valA (pe_own Ois_net hr (pa_cons (av 0) pa_nil) (by decide)))) (pss_one (ps_raise rfl takesE (pmk_own FVE Ei.q Ei.g Ei.k (raises_own Ei.xi.ex tI) rfl))) pss_nil)), ?_⟩
    refine ⟨v, d, rfl, hd, fun H' s' => ?_⟩
    cases c : netD d with
    | true => exact iteF (k1 c _ s')
    | false => refine (iteT (k2 c _ s') : if true = true then _ else _)
def spFind (K : PySem.W.Frag) (cS : Addr) : Sp := fun vs H Q E => ∃ (v u : V) (n : Int) (es : List PyData) (dn : PyData), vs = [v, u] ∧ Wd K H v (.tuple [.int n, .tuple es]) ∧ es.all (stepD n) = true ∧ Wd K H u dn ∧ dn.depth ≤ 10 ∧
  (∀ (i : Nat) (x : Str) (b c : PyData) (r : V) (H' : Hp), es[i]? = some (.tuple [.str x, b, c]) → isStrD x dn = true → Same H H' → Dq K H' r (.tuple [.str x, b, c]) → Q r H') ∧
  ((∀ (i : Nat) (x : Str) (b c : PyData), es[i]? = some (.tuple [.str x, b, c]) → isStrD x dn = false) → ∀ (dx : Addr) (v' : V) (H' : Hp), Same H H' → H dx = none → H' dx = some (.xd [("name", v')]) → Dq K H' v' dn → E (.ref cS) (some dx) H')
theorem ok_find_step {f cS : Addr} {fd : FuncData} (F : Fun K "find_step" "find_step" sfind_step f fd) (Es : ErrQ P w K mg base "UnknownStep" cS "name" "KeyError" "LookupError.__new__" "KeyError.__init__" tKey) :
    FnG P w K mg base (L2.CX P w) 14 f fd ["net", "name"] (spFind K cS) := by
  have nd := scfind_step.nd
  refine okGX F scfind_step (fun vs H Q E h => ?_) (fun cdv A outer s H vs Q E hr h => ?_)
  · obtain ⟨_, _, _, _, _, rfl, _⟩ := h
    rfl
  · obtain ⟨v, u, n, es, dn, rfl, ⟨hd, hsm⟩, hst, hu, hdp, k1, k2⟩ := h
    refine ⟨_, (pss_cons (ps_for (passes_of rfl) rfl (pi_tup (pe_ixA (av 0) pe_int)) (pg_name (i := 2) nd rfl (Or.inl rfl)) (pss_one (ps_if (pt_cmpA (op_eqStr hr.units64) (pe_ixA (av 2) pe_int) (av 1)) (pss_one (ps_ret (av 2))) pss_nil)))
      (pss_one (ps_raise rfl takesE (pmk_errQ Es hr (av 1))))), ?_⟩
    cases hd with
    | @tup a xs _ hq ha =>
      obtain ⟨x0, y, rfl, _, hy⟩ := dq2 ha
      cases hy with
      | @tup b ys _ hyq hya =>
        have hlen := hya.length
        refine .inr ⟨_, .ref b, hq, rfl, b, rfl, ⟨_, hyq⟩, ?_⟩
        refine for_it (walk_tup (xs := ys)) (fun i σ H' => (∃ o : Option V, σ = [some (.ref a), some u, o]) ∧ H' = H ∧ ∀ (j : Nat) (x : Str) (b c : PyData), j < i → es[j]? = some (.tuple [.str x, b, c]) → isStrD x dn = false) ⟨⟨_, rfl⟩, rfl, fun j _ _ _ hj => absurd hj (Nat.not_lt_zero _)⟩ (fun i σ H' _ ⟨_, e, _⟩ => e ▸ hyq) ?_ ?_
        · rintro i z σ H' H2 hi ⟨⟨o, rfl⟩, rfl, hno⟩ ⟨rfl, hz⟩
          obtain ⟨d, h1, h2⟩ := hya.get hz
          obtain ⟨x, bb, cc, rfl⟩ := step_is (List.all_eq_true.mp hst d (List.mem_of_getElem? h1))
          have h2' := h2
          cases h2' with
          | @tup q zs _ hzq hza =>
            obtain ⟨z1, z2, z3, rfl, hz1, _, _⟩ := dq3 hza
            cases hz1
            refine .inr ⟨_, .str x, hzq, rfl, x, dn, rfl, hu.dq, ?_⟩
            cases c : isStrD x dn with
            | true => refine (iteT (k1 i x bb cc _ _ h1 c (Same.refl _) h2) : if true = true then _ else _)
            | false =>
              refine iteF ⟨⟨_, rfl⟩, rfl, fun j x' b' c' hj hj2 => ?_⟩
              by_cases e : j = i
              · subst e
                rw [h1] at hj2
                cases hj2
                exact c
              · exact hno j x' b' c' (by omega) hj2
        · rintro σ H' ⟨⟨o, rfl⟩, rfl, hno⟩
          refine ⟨dn, hu.dq, hdp, hu.sm, fun dx v' H2 s2 n2 ex hv' => ?_⟩
          refine k2 (fun i x b c hi => hno i x b c ?_ hi) dx v' H2 s2 n2 ex hv'
          have := (List.getElem?_eq_some_iff.mp hi).1
          omega
end
end K01

set_option Elab.async false
set_option linter.all false
set_option maxRecDepth 100000
set_option maxHeartbeats 4000000
namespace K01
open PySem L2 PySem.KX
section
variable {P : Program} {w : World} {K : PySem.W.Frag} {mg : Str → Option Value} {base : Heap}
def spNames (K : PySem.W.Frag) (cI : Addr) : Sp := fun vs H Q E => ∃ (v : V) (d : PyData), vs = [v] ∧ Wd K H v d ∧ (netD d = true → ∀ (n : Int) (es : List PyData), d = .tuple [.int n, .tuple es] → ∀ (r : V) (H' : Hp), Same H H' → Dq K H' r (.tuple (es.map firstD)) → Q r H') ∧
  (netD d = false → ∀ H', Same H H' → E (.ref cI) none H')
theorem ok_step_names {f cI : Addr} {fd : FuncData} (F : Fun K "step_names" "step_names" sstep_names f fd) (T : TxtA mg) (Ocheck_net : Own P w K mg base (L2.CX P w) "check_net" 6 ["net"] (spChk K cI netD)) : FnG P w K mg base (L2.CX P w) 7 f fd ["net"] (spNames K cI) := by
  have nd := scstep_names.nd
  refine okGX F scstep_names (fun vs H Q E h => ?_) (fun cdv A outer s H vs Q E hr h => ?_)
  · obtain ⟨_, _, rfl, _⟩ := h
    rfl
  · obtain ⟨v, d, rfl, hd, k1, k2⟩ := h
    refine ⟨_, (pss_cons (ps_expr (pe_ownX Ocheck_net hr passE (pa_cons (av 0) pa_nil) (by decide)))
      (pss_one (ps_ret (pe_callTy call_tupleA (by rfl) T.tuple (by decide +kernel) (pa_cons (pe_lc (own := [("step", 1)]) (by rfl) nd (pi_tup (pe_ixA (av 0) pe_int)) (blkOk_by (N := ["net", "step"]) (sc := defScope sstep_names) (by decide +kernel)) (fun _ _ _ _ _ => (pg_name (i := 1) nd rfl (Or.inl rfl))) (fun _ _ _ _ _ => pts_nil) (fun _ _ _ _ _ => PE.up (show PE _ _ (tOp (rIxA K) (aVar 1) (tC (.int 0))) from (pe_ixA (av 1) pe_int)))) pa_nil))))), ?_⟩
    refine ⟨v, d, rfl, hd, fun c H1 s1 => ?_, fun c H1 s1 => k2 c H1 s1⟩
    obtain ⟨n, es, rfl, hst, hes⟩ := net_is c
    cases hd.dq with
    | @tup a xs _ hq ha =>
      obtain ⟨x0, y, rfl, _, hy⟩ := dq2 ha
      cases hy with
      | @tup b ys _ hyq hya =>
        have hlen := hya.length
        refine .inr ⟨_, .ref b, s1.sqT hq, rfl, b, rfl, ⟨_, s1.sqT hyq⟩, fun D hD => ?_⟩
        refine lc_itS (walk_tup (xs := ys)) (fun j u _ => ∃ x, (es.map firstD)[j]? = some (.str x) ∧ u = .str x) (fun _ _ _ _ _ h => h) hD (by omega) (fun H' s7 => (s1.trans s7).sqT hyq) (fun j z H' H2 hj s7 hD7 ⟨e2, hz⟩ => ?_) gName_mono (fun H2 acc2 s8 hl2 la2 hacc2 => ?_)
        · subst e2
          obtain ⟨d, h1, h2⟩ := hya.get hz
          obtain ⟨x, bb, cc, rfl⟩ := step_is (List.all_eq_true.mp hst d (List.mem_of_getElem? h1))
          have h2' := Dq.same (s1.trans s7) _ _ h2
          cases h2' with
          | @tup q zs _ hzq hza =>
            obtain ⟨z1, z2, z3, rfl, hz1, _, _⟩ := dq3 hza
            cases hz1
            refine ⟨rfl, .inr ⟨_, .str x, hzq, rfl, Same.refl _, x, ?_, rfl⟩⟩
            rw [List.getElem?_map, h1]
            rfl
        · refine .inl ⟨acc2, SqL.of hl2, fun l hl => ?_⟩
          refine k1 c n es rfl _ _ ((s1.trans s8).new hl) (.tup (SqT.of upd_same) (dqAll_get _ _ (by simp [la2, hlen]) fun j u hu => ?_))
          obtain ⟨x, h1, rfl⟩ := hacc2 j u hu
          exact ⟨.str x, h1, .str x⟩
/-- inputs_of, outputs_of: sel takes the part out of a step -/
def spPart (K : PySem.W.Frag) (cI cS : Addr) (sel : PyData → PyData → PyData) : Sp := fun vs H Q E => ∃ (v u : V) (d dn : PyData), vs = [v, u] ∧ Wd K H v d ∧ Wd K H u dn ∧ dn.depth ≤ 10 ∧
  (netD d = true → ∀ (n : Int) (es : List PyData), d = .tuple [.int n, .tuple es] →
    (∀ (i : Nat) (x : Str) (b c : PyData) (r : V) (H' : Hp), es[i]? = some (.tuple [.str x, b, c]) → isStrD x dn = true → Same H H' → Dq K H' r (sel b c) → Q r H') ∧
    ((∀ (i : Nat) (x : Str) (b c : PyData), es[i]? = some (.tuple [.str x, b, c]) → isStrD x dn = false) → ∀ (dx : Addr) (v' : V) (H' : Hp), Same H H' → H dx = none → H' dx = some (.xd [("name", v')]) → Dq K H' v' dn → E (.ref cS) (some dx) H')) ∧
  (netD d = false → ∀ H', Same H H' → E (.ref cI) none H')
theorem ok_inputs_of {f cI cS : Addr} {fd : FuncData} (F : Fun K "inputs_of" "inputs_of" sinputs_of f fd) (Ocheck_net : Own P w K mg base (L2.CX P w) "check_net" 6 ["net"] (spChk K cI netD)) (Ofind_step : Own P w K mg base (L2.CX P w) "find_step" 14 ["net", "name"] (spFind K cS)) :
    FnG P w K mg base (L2.CX P w) 15 f fd ["net", "name"] (spPart K cI cS fun b _ => b) := by
  have nd := scinputs_of.nd
  refine okGX F scinputs_of (fun vs H Q E h => ?_) (fun cdv A outer s H vs Q E hr h => ?_)
  · obtain ⟨_, _, _, _, rfl, _⟩ := h
    rfl
  · obtain ⟨v, u, d, dn, rfl, hd, hu, hdp, k1, k2⟩ := h
    refine ⟨_, (pss_cons (ps_expr (pe_ownX Ocheck_net hr passE (pa_cons (av 0) pa_nil) (by decide)))
      (pss_one (ps_ret (pe_ixA (pe_ownX Ofind_step hr passE (pa_cons (av 0) (pa_cons (av 1) pa_nil)) (by decide)) pe_int)))), ?_⟩
    refine ⟨v, d, rfl, hd, fun c H1 s1 => ?_, fun c H1 s1 => k2 c H1 s1⟩
    obtain ⟨n, es, rfl, hst, hes⟩ := net_is c
    obtain ⟨k3, k4⟩ := k1 c n es rfl
    refine ⟨v, u, n, es, dn, rfl, hd.same s1, hst, hu.same s1, hdp, fun i x b c r H2 hi hx s2 hr2 => ?_, fun hno dx v' H2 s2 n2 ex hv' => k4 hno dx v' H2 (s1.trans s2) (s1.free n2) ex hv'⟩
    cases hr2 with
    | @tup q zs _ hzq hza =>
      obtain ⟨z1, z2, z3, rfl, _, hz2, _⟩ := dq3 hza
      exact .inr ⟨_, z2, hzq, rfl, k3 i x b c z2 H2 hi hx (s1.trans s2) hz2⟩
theorem ok_outputs_of {f cI cS : Addr} {fd : FuncData} (F : Fun K "outputs_of" "outputs_of" soutputs_of f fd) (Ocheck_net : Own P w K mg base (L2.CX P w) "check_net" 6 ["net"] (spChk K cI netD)) (Ofind_step : Own P w K mg base (L2.CX P w) "find_step" 14 ["net", "name"] (spFind K cS)) :
    FnG P w K mg base (L2.CX P w) 15 f fd ["net", "name"] (spPart K cI cS fun _ c => c) := by
  have nd := scoutputs_of.nd
  refine okGX F scoutputs_of (fun vs H Q E h => ?_) (fun cdv A outer s H vs Q E hr h => ?_)
  · obtain ⟨_, _, _, _, rfl, _⟩ := h
    rfl
  · obtain ⟨v, u, d, dn, rfl, hd, hu, hdp, k1, k2⟩ := h
    refine ⟨_, (pss_cons (ps_expr (pe_ownX Ocheck_net hr passE (pa_cons (av 0) pa_nil) (by decide)))
      (pss_one (ps_ret (pe_ixA (pe_ownX Ofind_step hr passE (pa_cons (av 0) (pa_cons (av 1) pa_nil)) (by decide)) pe_int)))), ?_⟩
    refine ⟨v, d, rfl, hd, fun c H1 s1 => ?_, fun c H1 s1 => k2 c H1 s1⟩
    obtain ⟨n, es, rfl, hst, hes⟩ := net_is c
    obtain ⟨k3, k4⟩ := k1 c n es rfl
    refine ⟨v, u, n, es, dn, rfl, hd.same s1, hst, hu.same s1, hdp, fun i x b c r H2 hi hx s2 hr2 => ?_, fun hno dx v' H2 s2 n2 ex hv' => k4 hno dx v' H2 (s1.trans s2) (s1.free n2) ex hv'⟩
    cases hr2 with
    | @tup q zs _ hzq hza =>
      obtain ⟨z1, z2, z3, rfl, _, _, hz3⟩ := dq3 hza
      exact .inr ⟨_, z3, hzq, rfl, k3 i x b c z3 H2 hi hx (s1.trans s2) hz3⟩
end
end K01

set_option Elab.async false
set_option linter.all false
set_option maxRecDepth 100000
set_option maxHeartbeats 4000000
namespace K01
open PySem L2 PySem.KX
abbrev s_can_be_put_in_order : Stmt := top 26
theorem sc_can_be_put_in_order : FnScope ["value", "name", "inputs", "outputs"] ["value"] (defScope s_can_be_put_in_order) := ⟨rfl, rfl, rfl, by decide +kernel, rfl, by decide +kernel, by decide +kernel⟩
abbrev sare_integers : Stmt := top 4
theorem scare_integers : FnScope ["value", "part"] ["value"] (defScope sare_integers) := ⟨rfl, rfl, rfl, by decide +kernel, rfl, by decide +kernel, by decide +kernel⟩
abbrev s_put_in_order : Stmt := top 27
theorem sc_put_in_order : FnScope ["step", "name", "inputs", "outputs"] ["step"] (defScope s_put_in_order) := ⟨rfl, rfl, rfl, by decide +kernel, rfl, by decide +kernel, by decide +kernel⟩
def intsD : PyData → Bool
  | .tuple ds => ds.all isIntD
  | _ => false
def canD : PyData → Bool
  | .tuple [a, b, c] => isNameD a && (intsD b && intsD c)
  | _ => false
theorem can3 : ∀ {ds : List PyData}, ds.length ≠ 3 → canD (.tuple ds) = false
  | [], _ => rfl
  | [_], _ => rfl
  | [_, _], _ => rfl
  | [_, _, _], h => absurd rfl h
  | _ :: _ :: _ :: _ :: _, _ => rfl
structure TxtS (mg : Str → Option Value) : Prop where
  set : mg "set" = none
  sorted : mg "sorted" = none
section
variable {P : Program} {w : World} {K : PySem.W.Frag} {mg : Str → Option Value} {base : Heap}
theorem ok_are_integers {f : Addr} {fd : FuncData} (F : Fun K "are_integers" "are_integers" sare_integers f fd) (T : TxtA mg) (Ois_integer : Own P w K mg base CX0 "is_integer" 1 ["value"] (spT K isIntD)) : FnG P w K mg base CX0 2 f fd ["value"] (spN K intsD) := by
  have nd := scare_integers.nd
  refine okG F scare_integers (fun vs H Q E h => ?_) (fun cdv A outer s H vs Q E hr h => ?_)
  · obtain ⟨_, _, rfl, _⟩ := h
    rfl
  · obtain ⟨v, d, rfl, hd, k⟩ := h
    refine ⟨_, (pss_one (ps_ret (pe_and (pe_callB call_isiA (by rfl) T.isinstance (by decide +kernel) (pa_cons (av 0) (pa_cons (pe_bltn (v := .ty "tuple") (u := .type "tuple") rfl T.tuple (by decide +kernel) rfl) pa_nil))) (pe_one (pe_callB (cr_all rfl) (by rfl) T.all (by decide +kernel) (pa_cons (pe_lc (own := [("part", 1)]) (by rfl) nd (pi_tup (av 0)) (blkOk_by (N := ["value", "part"]) (sc := defScope sare_integers) (by decide +kernel)) (fun _ _ _ _ _ => (pg_name (i := 1) nd rfl (Or.inl rfl))) (fun _ _ _ _ _ => pts_nil) (fun _ _ _ _ _ => PE.up (pe_own Ois_integer hr (pa_cons (av 1) pa_nil) (by decide)))) pa_nil)))))), ?_⟩
    refine ⟨_, _, _, _, _, rfl, .ty _, hd.dq.ty, kit_ty (kit_tuple d), _, rfl, ?_⟩
    have no : isTupB d = false → intsD d = false := fun e => by
      cases d <;> first | rfl | cases e
    cases hb : isTupB d with
    | false =>
      rw [no hb] at k
      exact iteF (k _ (Same.refl _))
    | true =>
      refine (iteT ?_ : if true = true then _ else Q (.bl false) H)
      obtain ⟨hdq, hsm⟩ := hd
      cases hdq with
      | @tup a xs ds hq ha =>
        have hlen := ha.length
        obtain ⟨hn, hs2⟩ := smQ_tup hsm
        refine ⟨a, rfl, ⟨_, hq⟩, fun D hD => ?_⟩
        refine lc_itS (walk_tup (xs := xs)) (fun j u _ => ∃ d, ds[j]? = some d ∧ u = .bl (isIntD d)) (fun _ _ _ _ _ h => h) hD (by omega) (fun H' s5 => s5.sqT hq) (fun j y H' H2 hj s5 hD5 ⟨e2, hy⟩ => ?_) gName_mono (fun H' acc s6 hl la hacc => ?_)
        · subst e2
          obtain ⟨d, h1, h2⟩ := ha.get hy
          exact ⟨rfl, y, d, rfl, ⟨Dq.same s5 _ _ h2, smQ_mem hs2 h1⟩, Same.refl _, d, h1, rfl⟩
        · have ea : acc = (ds.map isIntD).map V.bl := acc_mapN (by rw [la, hlen]) hacc
          refine ⟨D, ds.map isIntD, rfl, SqL.of (by rw [← ea]; exact hl), ?_⟩
          rw [all_mapN]
          exact k _ s6
      | _ => cases hb
theorem ok_can_be {f : Addr} {fd : FuncData} (F : Fun K "_can_be_put_in_order" "_can_be_put_in_order" s_can_be_put_in_order f fd) (T : TxtA mg) (Ois_name : Own P w K mg base CX0 "is_name" 1 ["value"] (spN K isNameD)) (Oare_integers : Own P w K mg base CX0 "are_integers" 2 ["value"] (spN K intsD)) :
    FnG P w K mg base CX0 3 f fd ["value"] (spN K canD) := by
  have nd := sc_can_be_put_in_order.nd
  refine okG F sc_can_be_put_in_order (fun vs H Q E h => ?_) (fun cdv A outer s H vs Q E hr h => ?_)
  · obtain ⟨_, _, rfl, _⟩ := h
    rfl
  · obtain ⟨v, d, rfl, hd, k⟩ := h
    refine ⟨_, (pss_cons (ps_if (PW.pt (pw_or (pt_not (pt_valA (pe_callB call_isiA (by rfl) T.isinstance (by decide +kernel) (pa_cons (av 0) (pa_cons (pe_bltn (v := .ty "tuple") (u := .type "tuple") rfl T.tuple (by decide +kernel) rfl) pa_nil))))) (pw_or1 (pt_cmpA (op_neA hr.units64) (pe_callB call_lenA (by rfl) T.len PySem.boot_len (pa_cons (av 0) pa_nil)) pe_int)))) (pss_one (ps_ret pe_bl)) pss_nil)
      (pss_cons (ps_asg (av 0) (pg_tup rfl (pgs_cons (pg_name (i := 1) nd rfl (Or.inl rfl)) (pgs_cons (pg_name (i := 2) nd rfl (Or.inl rfl)) (pgs_cons (pg_name (i := 3) nd rfl (Or.inl rfl)) pgs_nil)))))
      (pss_one (ps_ret (pe_and (pe_own Ois_name hr (pa_cons (av 1) pa_nil) (by decide)) (pe_and (pe_own Oare_integers hr (pa_cons (av 2) pa_nil) (by decide)) (pe_one (pe_own Oare_integers hr (pa_cons (av 3) pa_nil) (by decide))))))))), ?_⟩
    refine ⟨_, _, _, _, _, rfl, .ty _, hd.dq.ty, kit_ty (kit_tuple d), ?_⟩
    have no : isTupB d = false → canD d = false := fun e => by
      cases d <;> first | rfl | cases e
    cases hb : isTupB d with
    | false =>
      rw [no hb] at k
      refine (iteT (iteT (k _ (Same.refl _))) : if true = true then _ else _)
    | true =>
      refine iteF ?_
      obtain ⟨hdq, hsm⟩ := hd
      cases hdq with
      | @tup a xs ds hq ha =>
        have hlen := ha.length
        refine .inr ⟨xs, hq, ?_⟩
        by_cases h3 : ds.length = 3
        · have c : (!decide ((xs.length : Int) = 3)) = false := by rw [decide_eq_true (by omega)]; rfl
          show (if (!decide ((xs.length : Int) = 3)) = true then _ else _)
          rw [c]
          refine iteF ?_
          obtain ⟨da, db, dc, rfl⟩ := len3 h3
          obtain ⟨x, y, z, rfl, hx, hy, hz⟩ := dq3 ha
          obtain ⟨m1, m2, m3⟩ := sm3 hsm
          refine ⟨a, _, rfl, hq, rfl, _, _, rfl, _, _, rfl, _, _, rfl, rfl, ?_⟩
          refine ⟨x, da, rfl, ⟨hx, m1⟩, fun H1 s1 => ⟨_, rfl, ?_⟩⟩
          have e3 : canD (.tuple [da, db, dc]) = (isNameD da && (intsD db && intsD dc)) := rfl
          rw [e3] at k
          cases c1 : isNameD da with
          | false =>
            rw [c1] at k
            exact iteF (k _ s1)
          | true =>
            rw [c1] at k
            refine iteT ⟨y, db, rfl, ⟨Dq.same s1 _ _ hy, m2⟩, fun H2 s2 => ⟨_, rfl, ?_⟩⟩
            cases c2 : intsD db with
            | false =>
              rw [c2] at k
              exact iteF (k _ (s1.trans s2))
            | true =>
              rw [c2] at k
              exact iteT ⟨z, dc, rfl, ⟨Dq.same (s1.trans s2) _ _ hz, m3⟩, fun H3 s3 => k _ ((s1.trans s2).trans s3)⟩
        · have c : (!decide ((xs.length : Int) = 3)) = true := by rw [decide_eq_false (by omega)]; rfl
          show (if (!decide ((xs.length : Int) = 3)) = true then _ else _)
          rw [c]
          rw [can3 h3] at k
          exact iteT (k _ (Same.refl _))
      | _ => cases hb
/-- a row of ints, as values, as data -/
abbrev tupI (ns : List Int) : PyData := .tuple (ns.map PyData.int)
theorem dq_ints : ∀ {ns : List Int} {xs : List V} {K : PySem.W.Frag} {H : Hp}, DqAll K H xs (ns.map PyData.int) → xs = ns.map V.int
  | [], _, _, _, h => by cases h; rfl
  | n :: r, _, _, _, h => by
    cases h with
    | cons h1 t =>
      cases h1
      rw [dq_ints t]
      rfl
theorem ints_dq : ∀ {ns : List Int} {K : PySem.W.Frag} {H : Hp}, DqAll K H (ns.map V.int) (ns.map PyData.int)
  | [], _, _ => .nil
  | n :: r, _, _ => .cons (.int n) ints_dq
def spPut (K : PySem.W.Frag) : Sp := fun vs H Q _ => ∃ (v : V) (a : PyData) (ns ms : List Int) (B : List Addr), vs = [v] ∧ Dq K (hide B H) v (.tuple [a, tupI ns, tupI ms]) ∧ ns.length ≤ 60 ∧ ms.length ≤ 60 ∧ (∀ b ∈ B, H b ≠ none) ∧
  ∀ (r : V) (ns' ms' : List Int) (H' : Hp), Tidy ns ns' → Tidy ms ms' → Same H H' → Dq K (hide B H') r (.tuple [a, tupI ns', tupI ms']) → Q r H'
theorem ok_put {f : Addr} {fd : FuncData} (F : Fun K "_put_in_order" "_put_in_order" s_put_in_order f fd) (T : TxtA mg) (S : TxtS mg) : FnG P w K mg base CX0 1 f fd ["step"] (spPut K) := by
  have nd := sc_put_in_order.nd
  refine okG F sc_put_in_order (fun vs H Q E h => ?_) (fun cdv A outer s H vs Q E hr h => ?_)
  · obtain ⟨_, _, _, _, _, rfl, _⟩ := h
    rfl
  · obtain ⟨v, da, ns, ms, B, rfl, hd, hn, hm, hB, k⟩ := h
    have nb : ∀ {p : Addr}, H p = none → p ∉ B := fun {p} n z => hB p z n
    refine ⟨_, (pss_cons (ps_asg (av 0) (pg_tup rfl (pgs_cons (pg_name (i := 1) nd rfl (Or.inl rfl)) (pgs_cons (pg_name (i := 2) nd rfl (Or.inl rfl)) (pgs_cons (pg_name (i := 3) nd rfl (Or.inl rfl)) pgs_nil)))))
      (pss_one (ps_ret (pe_tupS (pa_cons (av 1) (pa_cons (pe_callTy call_tupleA (by rfl) T.tuple (by decide +kernel) (pa_cons (pe_callB (call_sortTI rfl) (by rfl) S.sorted (by decide +kernel) (pa_cons (pe_callTy (call_setTI rfl) (by rfl) S.set (by decide +kernel) (pa_cons (av 2) pa_nil)) pa_nil)) pa_nil)) (pa_cons (pe_callTy call_tupleA (by rfl) T.tuple (by decide +kernel) (pa_cons (pe_callB (call_sortTI rfl) (by rfl) S.sorted (by decide +kernel) (pa_cons (pe_callTy (call_setTI rfl) (by rfl) S.set (by decide +kernel) (pa_cons (av 3) pa_nil)) pa_nil)) pa_nil)) pa_nil))))))), ?_⟩
    cases hd with
    | @tup a xs _ hq ha =>
      obtain ⟨x, y, z, rfl, hx, hy, hz⟩ := dq3 ha
      refine ⟨a, _, rfl, hide_sub.sqT hq, rfl, _, _, rfl, _, _, rfl, _, _, rfl, rfl, ?_⟩
      cases hy with
      | @tup b ys _ hbq hba =>
        have e1 := dq_ints hba
        subst e1
        cases hz with
        | @tup c zs _ hcq hca =>
          have e2 := dq_ints hca
          subst e2
          refine ⟨b, ns, rfl, hide_sub.sqT hbq, hn, fun p1 c1 H1 s1 n1 l1 hc1 => ?_⟩
          refine ⟨p1, _, c1, rfl, l1, by omega, fun ns' p2 H2 q1 q2 q3 s2 n2 l2 => ?_⟩
          refine .inl ⟨_, SqL.of l2, fun p3 n3 => ?_⟩
          have s3 : Same H2 (upd H2 p3 (.tup (ns'.map V.int))) := (Same.refl _).new n3
          have l3 : upd H2 p3 (.tup (ns'.map V.int)) p3 = some (.tup (ns'.map V.int)) := upd_same
          generalize upd H2 p3 (.tup (ns'.map V.int)) = H3 at s3 l3
          have s03 := (s1.trans s2).trans s3
          refine ⟨c, ms, rfl, s03.sqT (hide_sub.sqT hcq), hm, fun p4 c4 H4 s4 n4 l4 hc4 => ?_⟩
          refine ⟨p4, _, c4, rfl, l4, by omega, fun ms' p5 H5 r1 r2 r3 s5 n5 l5 => ?_⟩
          refine .inl ⟨_, SqL.of l5, fun p6 n6 => ?_⟩
          have s6 : Same H5 (upd H5 p6 (.tup (ms'.map V.int))) := (Same.refl _).new n6
          have l6 : upd H5 p6 (.tup (ms'.map V.int)) p6 = some (.tup (ms'.map V.int)) := upd_same
          generalize upd H5 p6 (.tup (ms'.map V.int)) = H6 at s6 l6
          refine ⟨by simp, fun p7 H7 s7 n7 l7 => ?_⟩
          have s37 := ((s4.trans s5).trans s6).trans s7
          refine k _ ns' ms' H7 ⟨q1, fun j => (q2 j).trans decide_eq_true_iff⟩ ⟨r1, fun j => (r2 j).trans decide_eq_true_iff⟩ (s03.trans s37) (.tup (SqT.of (by rw [hide_in (nb ((s03.trans ((s4.trans s5).trans s6)).free n7))]; exact l7)) (.cons (Dq.same (hide_same (s03.trans s37)) _ _ hx) (.cons (.tup (SqT.of (by rw [hide_in (nb ((s1.trans s2).free n3))]; exact s37 _ _ l3)) ints_dq) (.cons (.tup (SqT.of (by rw [hide_in (nb ((s03.trans (s4.trans s5)).free n6))]; exact s7 _ _ l6)) ints_dq) .nil))))
end
end K01

set_option Elab.async false
set_option linter.all false
set_option maxRecDepth 100000
set_option maxHeartbeats 4000000
namespace K01
open PySem L2 PySem.KX StX
open PySem.W (AllAlike Sortable dataLe EachIs alike alikeAll)
def insI (k : Int) : List Int → List Int
  | [] => [k]
  | x :: r => if k < x then k :: x :: r else if k = x then x :: r else x :: insI k r
def tidyI (ns : List Int) : List Int := ns.foldr insI []
theorem insI_mem (k : Int) : ∀ (r : List Int) (j : Int), j ∈ insI k r ↔ j = k ∨ j ∈ r
  | [], j => by simp [insI]
  | x :: r, j => by
    unfold insI
    split
    · simp
    · split
      · rename_i h1 h2
        subst h2
        simp
      · rw [List.mem_cons, insI_mem k r j, List.mem_cons]
        constructor
        · rintro (h | h | h)
          · exact .inr (.inl h)
          · exact .inl h
          · exact .inr (.inr h)
        · rintro (h | h | h)
          · exact .inr (.inl h)
          · exact .inl h
          · exact .inr (.inr h)
theorem insI_asc (k : Int) : ∀ (r : List Int), r.Pairwise (· < ·) → (insI k r).Pairwise (· < ·)
  | [], _ => by simp [insI]
  | x :: r, h => by
    obtain ⟨h1, h2⟩ := List.pairwise_cons.mp h
    unfold insI
    split
    · rename_i c
      exact List.pairwise_cons.mpr ⟨fun y hy => by
        rcases List.mem_cons.mp hy with z | z
        · omega
        · have := h1 y z
          omega, h⟩
    · split
      · exact h
      · rename_i c1 c2
        refine List.pairwise_cons.mpr ⟨fun y hy => ?_, insI_asc k r h2⟩
        rcases (insI_mem k r y).mp hy with z | z
        · omega
        · exact h1 y z
theorem tidyI_ok : ∀ ns : List Int, Tidy ns (tidyI ns)
  | [] => ⟨List.Pairwise.nil, fun k => Iff.rfl⟩
  | n :: r => by
    obtain ⟨h1, h2⟩ := tidyI_ok r
    refine ⟨insI_asc n _ h1, fun k => ?_⟩
    show k ∈ insI n (tidyI r) ↔ _
    rw [insI_mem, h2 k, List.mem_cons]
def intOf : PyData → Int
  | .int i => i
  | _ => 0
def tidyD (bs : List PyData) : List PyData := (tidyI (bs.map intOf)).map PyData.int
def putD : PyData → PyData
  | .tuple [a, .tuple bs, .tuple cs] => .tuple [a, .tuple (tidyD bs), .tuple (tidyD cs)]
  | d => d
def makeD (n : Int) (ds : List PyData) : PyData := .tuple [.int n, .tuple ((ds.map putD).mergeSort (dataLe false id))]
theorem ints_of : ∀ {bs : List PyData}, bs.all isIntD = true → bs = (bs.map intOf).map PyData.int
  | [], _ => rfl
  | b :: r, h => by
    have h1 := (Bool.and_eq_true_iff.mp (by have := h; rw [List.all_cons] at this; exact this)).1
    have h2 : r.all isIntD = true := by
      have := h
      rw [List.all_cons] at this
      exact (Bool.and_eq_true_iff.mp this).2
    cases b with
    | int i =>
      show _ = PyData.int i :: (r.map intOf).map PyData.int
      rw [← ints_of h2]
    | _ => cases h1
/-- what can be put in order is a name with two rows of ints -/
theorem can_is {d : PyData} (h : canD d = true) : ∃ x ns ms, d = .tuple [.str x, tupI ns, tupI ms] := by
  cases d with
  | tuple ds =>
    by_cases h3 : ds.length = 3
    · obtain ⟨a, b, c, rfl⟩ := len3 h3
      have e3 : canD (.tuple [a, b, c]) = (isNameD a && (intsD b && intsD c)) := rfl
      rw [e3] at h
      simp only [Bool.and_eq_true] at h
      obtain ⟨h1, h2, h4⟩ := h
      cases a with
      | str x =>
        cases b with
        | tuple bs =>
          cases c with
          | tuple cs => exact ⟨x, bs.map intOf, cs.map intOf, by rw [tupI, tupI, ← ints_of h2, ← ints_of h4]⟩
          | _ => cases h4
        | _ => cases h2
      | _ => cases h1
    · rw [can3 h3] at h
      cases h
  | _ => cases h
theorem put_is (a : PyData) (ns ms : List Int) : putD (.tuple [a, tupI ns, tupI ms]) = .tuple [a, tupI (tidyI ns), tupI (tidyI ms)] := by
  have e : ∀ l : List Int, (l.map PyData.int).map intOf = l := fun l => by
    rw [List.map_map]
    exact List.map_id l
  show PyData.tuple [a, .tuple (tidyD (ns.map PyData.int)), .tuple (tidyD (ms.map PyData.int))] = _
  unfold tidyD
  rw [e, e]
theorem alike_ints : ∀ ns ms : List Int, alikeAll (ns.map PyData.int) (ms.map PyData.int) = true
  | [], _ => by simp [alikeAll]
  | n :: r, [] => by simp [alikeAll]
  | n :: r, m :: l => by
    show (alike (.int n) (.int m) && alikeAll (r.map PyData.int) (l.map PyData.int)) = true
    rw [alike_ints r l]
    rfl
theorem alike_rows (x y : Str) (ns ms ns' ms' : List Int) : alike (.tuple [.str x, tupI ns, tupI ms]) (.tuple [.str y, tupI ns', tupI ms']) = true := by
  show (alike (.str x) (.str y) && (alikeAll (ns.map PyData.int) (ns'.map PyData.int) && (alikeAll (ms.map PyData.int) (ms'.map PyData.int) && alikeAll [] []))) = true
  rw [alike_ints, alike_ints]
  rfl
end K01

set_option Elab.async false
set_option linter.all false
set_option maxRecDepth 100000
set_option maxHeartbeats 4000000
namespace K01
open PySem L2 PySem.KX StX
open PySem.W (AllAlike Sortable dataLe EachIs alike alikeAll)
abbrev smake_net : Stmt := top 18
theorem scmake_net : FnScope ["places", "steps", "net", "step"] ["places", "steps"] (defScope smake_net) := ⟨rfl, rfl, rfl, by decide +kernel, rfl, by decide +kernel, by decide +kernel⟩
theorem smAll_of : ∀ {ds : List PyData}, (∀ d ∈ ds, smQ d = true) → smQAll ds = true
  | [], _ => rfl
  | d :: r, h => by
    simp only [smQAll, Bool.and_eq_true]
    exact ⟨h d List.mem_cons_self, smAll_of fun e he => h e (List.mem_cons_of_mem _ he)⟩
theorem insI_len (k : Int) : ∀ r : List Int, (insI k r).length ≤ r.length + 1
  | [] => by simp [insI]
  | x :: r => by
    unfold insI
    split
    · simp
    · split
      · simp
      · have := insI_len k r
        simp only [List.length_cons]
        omega
theorem tidyI_len : ∀ ns : List Int, (tidyI ns).length ≤ ns.length
  | [] => Nat.le_refl _
  | n :: r => by
    have h := insI_len n (tidyI r)
    have h2 := tidyI_len r
    show (insI n (tidyI r)).length ≤ r.length + 1
    omega
theorem sm_ints (ns : List Int) : smQAll (ns.map PyData.int) = true := smAll_of fun d hd => by
  obtain ⟨i, _, rfl⟩ := List.mem_map.mp hd
  rfl
theorem sm_row {x : Str} {ns ms : List Int} (h1 : x.length ≤ 1000) (h2 : ns.length ≤ 60) (h3 : ms.length ≤ 60) : smQ (.tuple [.str x, tupI ns, tupI ms]) = true := by
  simp only [smQ, smQAll, sm_ints, List.length_map, Bool.and_eq_true, decide_eq_true_eq, Bool.and_true]
  refine ⟨by simp, ?_⟩
  omega
theorem depth_row (x : Str) (ns ms : List Int) : PyData.depth (.tuple [.str x, tupI ns, tupI ms]) ≤ 50 := by
  simp only [PyData.depth, PyData.depthAll, PySem.W.depth_ints]
  omega
theorem dq_pairs {K : PySem.W.Frag} {H : Hp} : ∀ {l : List (V × PyData)}, (∀ p ∈ l, Dq K H p.1 p.2) → DqAll K H (l.map Prod.fst) (l.map Prod.snd)
  | [], _ => .nil
  | p :: r, h => .cons (h p List.mem_cons_self) (dq_pairs fun q hq => h q (List.mem_cons_of_mem _ hq))
theorem dq_zip {K : PySem.W.Frag} {H : Hp} : ∀ {vs : List V} {ds : List PyData}, DqAll K H vs ds → ∀ p ∈ vs.zip ds, Dq K H p.1 p.2
  | _, _, .nil, p, hp => nomatch hp
  | _, _, .cons h t, p, hp => by
    rcases List.mem_cons.mp hp with e | e
    · rw [e]
      exact h
    · exact dq_zip t p e
theorem sortQ_snd {vs : List V} {ds : List PyData} (hl : vs.length = ds.length) : (sortQ vs ds).map Prod.snd = ds.mergeSort (dataLe false id) := by
  have e := List.map_mergeSort (r := dataLe false Prod.snd) (s := dataLe false id) (f := Prod.snd) (l := vs.zip ds) (fun a _ b _ => rfl)
  exact e.trans (by rw [zip_snd hl])
theorem sortQ_dq {K : PySem.W.Frag} {H : Hp} {vs : List V} {ds : List PyData} (h : DqAll K H vs ds) : DqAll K H ((sortQ vs ds).map Prod.fst) (ds.mergeSort (dataLe false id)) := by
  rw [← sortQ_snd h.length]
  exact dq_pairs fun p hp => dq_zip h p (List.mem_mergeSort.mp hp)
section
variable {P : Program} {w : World} {K : PySem.W.Frag} {mg : Str → Option Value} {base : Heap}
def spMk (K : PySem.W.Frag) (cN cI : Addr) : Sp := fun vs H Q E => ∃ (v : V) (t : Addr) (dp : PyData) (xs : List V) (ds : List PyData), vs = [v, .ref t] ∧ Wd K H v dp ∧ dp.depth ≤ 10 ∧ SqT K H t xs ∧ DqAll K H xs ds ∧ ds.length ≤ 100 ∧ smQAll ds = true ∧
  (∀ (i : Nat) (x : Str) (ns ms : List Int), ds[i]? = some (.tuple [.str x, tupI ns, tupI ms]) → ns.length ≤ 60 ∧ ms.length ≤ 60 ∧ x.length ≤ 1000) ∧
  (intIn 2 30 dp = false → ∀ (dx : Addr) (v' : V) (H' : Hp), Same H H' → H dx = none → H' dx = some (.xd [("value", v')]) → Dq K H' v' dp → E (.ref cN) (some dx) H') ∧
  (intIn 2 30 dp = true → ds.all canD = false → ∀ H', Same H H' → E (.ref cI) none H') ∧
  (∀ n : Int, dp = .int n → intIn 2 30 dp = true → ds.all canD = true → (netD (makeD n ds) = false → ∀ H', Same H H' → E (.ref cI) none H') ∧ (netD (makeD n ds) = true → ∀ (r : V) (H' : Hp), Same H H' → Dq K H' r (makeD n ds) → Q r H'))
theorem ok_make_net {f cN cI : Addr} {fd : FuncData} (F : Fun K "make_net" "make_net" smake_net f fd) (T : TxtA mg) (S : TxtS mg) (En : ErrQ P w K mg base "InvalidNumber" cN "value" "IndexError" "IndexError.__new__" "IndexError.__init__" tIndex) (Ei : ErrM K mg "InvalidNet" cI "ValueError.__new__" bmVE) (tI : PySem.W.typeIn K (.ref cI) = some (.type "type"))
    (Ois_integer_within : Own P w K mg base CX0 "is_integer_within" 2 ["value", "least", "most"] (spWithin K)) (O_can : Own P w K mg base CX0 "_can_be_put_in_order" 3 ["value"] (spN K canD)) (O_put : Own P w K mg base CX0 "_put_in_order" 1 ["step"] (spPut K)) (Ocheck_net : Own P w K mg base (L2.CX P w) "check_net" 6 ["net"] (spChk K cI netD)) :
    FnRG P w K mg base (L2.CX P w) 14 f (fun vs H Q E => ∃ ws rest, vs = ws ++ rest ∧ ws.length = 1 ∧ rest.length ≤ sizeLine ∧ ∀ p, H p = none → spMk K cN cI (ws ++ [V.ref p]) (upd H p (.tup rest)) Q E) := by
  have nd := scmake_net.nd
  obtain ⟨oc, od, kV, doc, pm, an, cdv, ct, osl, rfl, lk, hcd⟩ := F.ex
  refine fn_starG (ps := ["places"]) (pv := "steps") lk hcd scmake_net cxUp ?_ (fun A outer s H vs Q E hr h => ?_)
  · intro us rest hl
    match us, rest, hl with
    | [a], [], _ => rfl
    | [a], r :: rs, _ => rfl
  · obtain ⟨v, t, dp, xs, ds, rfl, hv, hdp, ht, hds, hn, hsm, hsz, k1, k2, k3⟩ := h
    refine ⟨_, (pss_cons (ps_if (pt_not (pt_valA (pe_own Ois_integer_within hr (pa_cons (av 0) (pa_cons pe_int (pa_cons (pe_gint T.g_MAX_PLACES) pa_nil))) (by decide)))) (pss_one (ps_raise rfl takesE (pmk_errQ En hr (av 0)))) pss_nil)
      (pss_cons (ps_if (pt_not (pt_valA (pe_callB (cr_all rfl) (by rfl) T.all (by decide +kernel) (pa_cons (pe_lc (own := [("step", 3)]) (by rfl) nd (pi_tup (av 1)) (blkOk_by (N := ["places", "steps", "net", "step"]) (sc := defScope smake_net) (by decide +kernel)) (fun _ _ _ _ _ => (pg_name (i := 3) nd rfl (Or.inl rfl))) (fun _ _ _ _ _ => pts_nil) (fun _ _ _ _ _ => PE.up (pe_own O_can hr (pa_cons (av 3) pa_nil) (by decide)))) pa_nil)))) (pss_one (ps_raise rfl takesE (pmk_own FVE Ei.q Ei.g Ei.k (raises_own Ei.xi.ex tI) rfl))) pss_nil)
      (pss_cons (ps_set (i := 2) nd rfl (Or.inl rfl) (pe_tupS (pa_cons (av 0) (pa_cons (pe_callTy call_tupleA (by rfl) T.tuple (by decide +kernel) (pa_cons (pe_callB (call_sortedQ hr.units64) (by rfl) S.sorted (by decide +kernel) (pa_cons (pe_lc (own := [("step", 3)]) (by rfl) nd (pi_tup (av 1)) (blkOk_by (N := ["places", "steps", "net", "step"]) (sc := defScope smake_net) (by decide +kernel)) (fun _ _ _ _ _ => (pg_name (i := 3) nd rfl (Or.inl rfl))) (fun _ _ _ _ _ => pts_nil) (fun _ _ _ _ _ => PE.up (pe_own O_put hr (pa_cons (av 3) pa_nil) (by decide)))) pa_nil)) pa_nil)) pa_nil))))
      (pss_cons (ps_expr (pe_ownX Ocheck_net hr passE (pa_cons (av 2) pa_nil) (by decide)))
      (pss_one (ps_ret (av 2))))))), ?_⟩
    have hlen := hds.length
    refine ⟨v, dp, 2, 30, rfl, hv, ?_⟩
    cases c : intIn 2 30 dp with
    | false =>
      refine (iteT ?_ : if true = true then _ else _)
      exact ⟨dp, hv.dq, hdp, hv.sm, fun dx v' H2 s2 n2 ex hv' => k1 c dx v' H2 s2 n2 ex hv'⟩
    | true =>
      refine iteF ⟨t, rfl, ⟨_, ht⟩, fun D hD => ?_⟩
      refine lc_itS (walk_tup (xs := xs)) (fun j u _ => ∃ d, ds[j]? = some d ∧ u = .bl (canD d)) (fun _ _ _ _ _ h => h) hD (by omega) (fun H' s5 => s5.sqT ht) (fun j z H' H2 hj s5 hD5 ⟨e2, hz⟩ => ?_) gName_mono (fun H' acc s6 hl la hacc => ?_)
      · subst e2
        obtain ⟨d, h1, h2⟩ := hds.get hz
        exact ⟨rfl, z, d, rfl, ⟨Dq.same s5 _ _ h2, smQ_mem hsm h1⟩, fun H4 s7 => ⟨s7, d, h1, rfl⟩⟩
      · have ea : acc = (ds.map canD).map V.bl := acc_mapN (by rw [la, hlen]) hacc
        refine ⟨D, ds.map canD, rfl, SqL.of (by rw [← ea]; exact hl), ?_⟩
        rw [all_mapN]
        cases c2 : ds.all canD with
        | false => refine (iteT (k2 c c2 _ s6) : if true = true then _ else _)
        | true =>
          have hrow : ∀ (j : Nat) (d : PyData), ds[j]? = some d → ∃ x ns ms, d = .tuple [.str x, tupI ns, tupI ms] := fun j d hj => can_is (List.all_eq_true.mp c2 d (List.mem_of_getElem? hj))
          cases hv.dq with
          | int n =>
            obtain ⟨k3, k4⟩ := k3 n rfl c c2
            refine iteF ⟨t, rfl, ⟨_, s6.sqT ht⟩, fun D2 hD2 => ?_⟩
            refine lc_itS (walk_tup (xs := xs)) (fun j u H => ∃ d, ds[j]? = some d ∧ Dq K H u (putD d)) (fun j v H H' e ⟨d, h1, h2⟩ => ⟨d, h1, Dq.same e _ _ h2⟩) hD2 (by omega) (fun H' s7 => (s6.trans s7).sqT ht) (fun j z H1 H2 hj s7 hD7 ⟨e2, hz⟩ => ?_) gName_mono (fun H3 acc2 s8 hl2 la2 hacc2 => ?_)
            · subst e2
              obtain ⟨d, h1, h2⟩ := hds.get hz
              obtain ⟨x, ns, ms, rfl⟩ := hrow j d h1
              obtain ⟨z1, z2, z3⟩ := hsz j x ns ms h1
              have hdH : Dq K (hide [D2] H2) z (.tuple [.str x, tupI ns, tupI ms]) := Dq.same (fun b o e => by
                have hb : b ∉ [D2] := fun q => by
                  have e2 := s6 _ _ e
                  rw [List.mem_singleton.mp q, hD2] at e2
                  cases e2
                rw [hide_in hb]
                exact s7 _ _ (s6 _ _ e)) _ _ h2
              refine ⟨rfl, z, .str x, ns, ms, [D2], rfl, hdH, z1, z2, fun b hb => ?_, fun r ns' ms' H4 t1 t2 s9 hr2 => ⟨s9, _, h1, ?_⟩⟩
              · rw [List.mem_singleton.mp hb]
                exact hD7
              · rw [put_is, (tidyI_ok ns).eq t1, (tidyI_ok ms).eq t2]
                exact hr2
            · have hP : ∀ d ∈ ds.map putD, ∃ x ns ms, d = .tuple [.str x, tupI ns, tupI ms] ∧ smQ d = true := fun d hd => by
                obtain ⟨d0, h0, rfl⟩ := List.mem_map.mp hd
                obtain ⟨i, hi⟩ := List.getElem?_of_mem h0
                obtain ⟨x, ns, ms, rfl⟩ := hrow i d0 hi
                obtain ⟨z1, z2, z3⟩ := hsz i x ns ms hi
                rw [put_is]
                have y1 := tidyI_len ns
                have y2 := tidyI_len ms
                exact ⟨x, tidyI ns, tidyI ms, rfl, sm_row z3 (by omega) (by omega)⟩
              have hdq : DqAll K H3 acc2 (ds.map putD) := dqAll_get _ _ (by simp [la2, hlen]) fun j u hu => by
                obtain ⟨d, h1, h2⟩ := hacc2 j u hu
                exact ⟨putD d, by rw [List.getElem?_map, h1]; rfl, h2⟩
              refine ⟨D2, acc2, ds.map putD, rfl, SqL.of hl2, hdq, fun d hd d' hd' => ?_, .inl fun d hd => ?_, by simp; omega, fun d hd => ?_, fun p H4 s9 n9 l9 => ?_⟩
              · obtain ⟨x, ns, ms, rfl, _⟩ := hP d hd
                obtain ⟨x', ns', ms', rfl, _⟩ := hP d' hd'
                exact alike_rows _ _ _ _ _ _
              · obtain ⟨x, ns, ms, rfl, _⟩ := hP d hd
                exact ⟨_, _, rfl⟩
              · obtain ⟨x, ns, ms, rfl, _⟩ := hP d hd
                exact depth_row _ _ _
              · refine .inl ⟨_, SqL.of l9, fun q nq => ?_⟩
                have sq : Same H4 (upd H4 q (.tup ((sortQ acc2 (ds.map putD)).map Prod.fst))) := (Same.refl _).new nq
                have lq : upd H4 q (.tup ((sortQ acc2 (ds.map putD)).map Prod.fst)) q = some (.tup ((sortQ acc2 (ds.map putD)).map Prod.fst)) := upd_same
                generalize upd H4 q (.tup ((sortQ acc2 (ds.map putD)).map Prod.fst)) = H5 at sq lq
                refine ⟨by simp, fun r H6 s10 n10 l10 => ?_⟩
                have s36 : Same H3 H6 := (s9.trans sq).trans s10
                have sH6 : Same H H6 := (s6.trans s8).trans s36
                have hnet : Dq K H6 (.ref r) (makeD n ds) := .tup (SqT.of l10) (.cons (.int n) (.cons (.tup (SqT.of (s10 _ _ lq)) (sortQ_dq (DqAll.same s36 _ _ hdq))) .nil))
                have hsmN : smQ (makeD n ds) = true := by
                  show smQ (.tuple [.int n, .tuple ((ds.map putD).mergeSort (dataLe false id))]) = true
                  have e1 : smQAll ((ds.map putD).mergeSort (dataLe false id)) = true := smAll_of fun d hd => by
                    obtain ⟨_, _, _, _, h⟩ := hP d (List.mem_mergeSort.mp hd)
                    exact h
                  simp only [smQ, smQAll, e1, List.length_mergeSort, List.length_map, Bool.and_eq_true, decide_eq_true_eq, Bool.and_true]
                  exact ⟨by simp, trivial, by omega⟩
                refine ⟨.ref r, makeD n ds, rfl, ⟨hnet, hsmN⟩, fun c5 H7 s11 => ?_, fun c5 H7 s11 => k3 c5 H7 (sH6.trans s11)⟩
                exact k4 c5 _ H7 (sH6.trans s11) (Dq.same s11 _ _ hnet)
          | _ => cases c
end
end K01

set_option Elab.async false
set_option linter.all false
set_option maxRecDepth 100000
set_option maxHeartbeats 4000000
namespace K01
open PySem L2 PySem.KX
abbrev s_law_roll : Stmt := top 30
theorem sc_law_roll : FnScope ["dice", "total", "found", "one", "two"] ["dice", "total"] (defScope s_law_roll) := ⟨rfl, rfl, rfl, by decide +kernel, rfl, by decide +kernel, by decide +kernel⟩
abbrev s_law_dice : Stmt := top 29
theorem sc_law_dice : FnScope ["script", "at", "cell", "great", "seed", "place", "other"] ["script", "at"] (defScope s_law_dice) := ⟨rfl, rfl, rfl, by decide +kernel, rfl, by decide +kernel, by decide +kernel⟩
abbrev s_law_one_of : Stmt := top 31
theorem sc_law_one_of : FnScope ["dice", "items"] ["dice", "items"] (defScope s_law_one_of) := ⟨rfl, rfl, rfl, by decide +kernel, rfl, by decide +kernel, by decide +kernel⟩
structure Txt (mg : Str → Option Value) : Prop where
  len : mg "len" = none
  abs : mg "abs" = none
  int : mg "int" = none
  enumerate : mg "enumerate" = none
section
variable {P : Program} {w : World} {K : PySem.W.Frag} {mg : Str → Option Value} {base : Heap}
def spRoll : Sp := fun vs H Q _ => ∃ (p : Addr) (total g s n : Int), vs = [.ref p, .int total] ∧ H p = some (.lst [.int g, .int s, .int n]) ∧ 0 < total ∧ total < 2 ^ 60 ∧ 0 ≤ g ∧ 0 ≤ s ∧ s < 2 ^ 61 ∧ 0 ≤ n ∧ n < 2 ^ 30 ∧
  ∀ r g' n' : Int, 0 ≤ r → r < total → 0 ≤ g' → n ≤ n' → n' ≤ n + 1 → Q (.int r) (upd H p (.lst [.int g', .int s, .int n']))
theorem ok_roll {f : Addr} {fd : FuncData} (F : Fun K "_law_roll" "_law_roll" s_law_roll f fd) : FnG P w K mg base CX0 1 f fd ["dice", "total"] spRoll := by
  have nd := sc_law_roll.nd
  refine okG F sc_law_roll (fun vs H Q E h => ?_) (fun cdv A outer s H vs Q E hr h => ?_)
  · obtain ⟨p, total, g, s, n, rfl, _⟩ := h
    rfl
  · obtain ⟨p, total, g, s, n, rfl, hp, h1, h2, h3, h4, h5, h6, h7, k⟩ := h
    refine ⟨_, (pss_cons (ps_if (pt_cmpA op_gtA (pe_ixA (av 0) pe_int) pe_int) (pss_cons (ps_set (i := 2) nd rfl (Or.inl rfl) (pe_op op_modA (pe_ixA (av 0) pe_int) (av 1)))
      (pss_cons (ps_asg (pe_op op_fdvA (pe_ixA (av 0) pe_int) (av 1)) (pg_sub (av 0) pe_int set_list))
      (pss_one (ps_ret (av 2))))) pss_nil)
      (pss_cons (ps_asg (pe_op op_addA (pe_ixA (av 0) pe_int) pe_int) (pg_sub (av 0) pe_int set_list))
      (pss_cons (ps_set (i := 3) nd rfl (Or.inl rfl) (pe_op op_modA (pe_op op_powA (pe_op op_addA (pe_ixA (av 0) pe_int) (pe_op op_mulA pe_int (pe_ixA (av 0) pe_int))) pe_int) pe_int))
      (pss_cons (ps_set (i := 4) nd rfl (Or.inl rfl) (pe_op op_modA (pe_op op_powA (pe_op op_addA (pe_op op_addA (av 3) (pe_op op_modA (pe_ixA (av 0) pe_int) pe_int)) (pe_op op_mulA pe_int (pe_ixA (av 0) pe_int))) pe_int) pe_int))
      (pss_one (ps_ret (pe_op op_modA (pe_op op_fdvA (av 4) pe_int) (av 1)))))))), ?_⟩
    have hS : SqL K H p [.int g, .int s, .int n] := SqL.of hp
    refine .inl ⟨_, _, hS, rfl, ?_⟩
    refine ite2 (fun hg => ?_) (fun hg => ?_)
    · refine .inl ⟨_, _, hS, rfl, h1, ?_⟩
      refine .inl ⟨_, _, hS, rfl, wide_div h1 (b := 60) (by omega) (by decide) (by decide), ?_⟩
      refine ⟨p, _, 0, 0, rfl, rfl, hp, rfl, ?_⟩
      exact k (g % total) (g / total) n (Int.emod_nonneg _ (by omega)) (Int.emod_lt_of_pos _ h1) (Int.ediv_nonneg h3 (by omega)) (by omega) (by omega)
    · refine .inl ⟨_, _, hS, rfl, ?_⟩
      refine ⟨p, _, 2, 2, rfl, rfl, hp, rfl, ?_⟩
      have hS1 : SqL K (upd H p (.lst [.int g, .int s, .int (n + 1)])) p [.int g, .int s, .int (n + 1)] := SqL.of upd_same
      refine .inl ⟨_, _, hS1, rfl, ?_⟩
      refine .inl ⟨_, _, hS1, rfl, .inl ⟨by decide, by decide⟩, ?_⟩
      refine ⟨pow_ok (by omega) (by omega) (by decide) (by decide), by decide, ?_⟩
      have b1 := Int.emod_nonneg ((s + 15485863 * (n + 1)) ^ Int.toNat 3) (show (2305843009213693951 : Int) ≠ 0 by decide)
      have b2 := Int.emod_lt_of_pos ((s + 15485863 * (n + 1)) ^ Int.toNat 3) (show (0 : Int) < 2305843009213693951 by decide)
      refine .inl ⟨_, _, hS1, rfl, by decide, ?_⟩
      have b3 := Int.emod_nonneg s (show (1000033 : Int) ≠ 0 by decide)
      have b4 := Int.emod_lt_of_pos s (show (0 : Int) < 1000033 by decide)
      refine .inl ⟨_, _, hS1, rfl, .inl ⟨by decide, by decide⟩, ?_⟩
      refine ⟨pow_ok (by omega) (by omega) (by decide) (by decide), by decide, ?_⟩
      refine ⟨wide_div (by decide) (b := 14) (by decide) (by decide) (by decide), h1, ?_⟩
      exact k _ g (n + 1) (Int.emod_nonneg _ (by omega)) (Int.emod_lt_of_pos _ h1) h3 (by omega) (by omega)
def spDice (K : PySem.W.Frag) : Sp := fun vs H Q _ => ∃ (a : Addr) (ns : List Int) (at' : Nat), vs = [.ref a, .int at'] ∧ SqL K H a (ns.map V.int) ∧ ns.length ≤ 63 ∧ at' < 64 ∧
  ∀ (H' : Hp) (p : Addr) (g s : Int), Same H H' → H p = none → H' p = some (.lst [.int g, .int s, .int 0]) → 0 ≤ g → 0 ≤ s → s < 2 ^ 61 → Q (.ref p) H'
theorem ok_dice {f : Addr} {fd : FuncData} (F : Fun K "_law_dice" "_law_dice" s_law_dice f fd) (T : Txt mg) : FnG P w K mg base CX0 1 f fd ["script", "at"] (spDice K) := by
  have nd := sc_law_dice.nd
  refine okG F sc_law_dice (fun vs H Q E h => ?_) (fun cdv A outer s H vs Q E hr h => ?_)
  · obtain ⟨a, ns, at', rfl, _⟩ := h
    rfl
  · obtain ⟨a, ns, at', rfl, hS, hlen, hat, k⟩ := h
    refine ⟨_, (pss_cut (ps_set (i := 2) nd rfl (Or.inl rfl) (pe_ifExp (pt_cmpA op_ltA (av 1) (pe_callB call_lenA (by rfl) T.len PySem.boot_len (pa_cons (av 0) pa_nil))) (pe_ixA (av 0) (av 1)) (pe_op op_addA (pe_op op_mulA pe_int (av 1)) pe_int)))
      (pss_cons (ps_set (i := 3) nd rfl (Or.inl rfl) (pe_op op_modA (pe_callB call_absA (by rfl) T.abs (by decide +kernel) (pa_cons (av 2) pa_nil)) (pe_op op_powA (pe_op op_powA pe_int pe_int) pe_int)))
      (pss_cons (ps_set (i := 4) nd rfl (Or.inl rfl) (pe_op op_addA (pe_op op_addA (pe_op op_addA (pe_op op_modA (av 3) pe_int) (pe_op op_mulA pe_int (av 1))) (pe_op op_mulA pe_int (pe_callTy call_intA (by rfl) T.int (by decide +kernel) (pa_cons (pe_cmpA op_ltA (av 2) pe_int) pa_nil)))) pe_int))
      (pss_cons (ps_for PassesOwn.never rfl (pi_enum (by rfl) T.enumerate (pa_cons (av 0) pa_nil)) (pg_tup rfl (pgs_cons (pg_name (i := 5) nd rfl (Or.inl rfl)) (pgs_cons (pg_name (i := 6) nd rfl (Or.inl rfl)) pgs_nil))) (pss_one (ps_if (pt_cmpA (op_neA hr.units64) (av 5) (av 1)) (pss_one (ps_set (i := 4) nd rfl (Or.inl rfl) (pe_op op_modA (pe_op op_addA (pe_op op_addA (pe_op op_mulA pe_int (av 4)) (av 6)) (av 5)) pe_int))) pss_nil)))
      (pss_cons (ps_set (i := 4) nd rfl (Or.inl rfl) (pe_op op_modA (pe_op op_powA (av 4) pe_int) pe_int))
      (pss_one (ps_ret (pe_lst (pa_cons (pe_op op_mulA (pe_op op_fdvA (av 3) (pe_op op_powA pe_int pe_int)) (pe_callTy call_intA (by rfl) T.int (by decide +kernel) (pa_cons (pe_cmpA op_geA (av 3) (pe_op op_powA pe_int pe_int)) pa_nil))) (pa_cons (av 4) (pa_cons pe_int pa_nil))))))))))), ?_⟩
    refine ⟨fun σ H' => ∃ cell : Int, σ = [some (.ref a), some (.int at'), some (.int cell), none, none, none, none] ∧ H' = H, ?_, ?_⟩
    · refine .inl ⟨_, hS, ?_⟩
      refine ite2 (fun hc => ?_) (fun hc => ?_)
      · have hc' : at' < ns.length := by
          have := of_decide_eq_true hc
          rw [List.length_map] at this
          omega
        refine .inl ⟨_, _, hS, atI_nat (by rw [List.getElem?_map, List.getElem?_eq_getElem hc']; rfl), ?_⟩
        exact ⟨_, rfl, rfl⟩
      · exact ⟨.inl ⟨by decide, by decide⟩, _, rfl, rfl⟩
    rintro σ H' ⟨cell, rfl, rfl⟩
    refine ⟨pow_ok (by decide) (by decide) (by decide) (by decide), big_bits, big_pos, ?_⟩
    generalize hG : (if cell < 0 then -cell else cell) % ((10 : Int) ^ Int.toNat 60) ^ Int.toNat 13 = great
    have hg0 : 0 ≤ great := by rw [← hG]; exact Int.emod_nonneg _ (by have := big_pos; omega)
    refine ⟨by decide, .inl ⟨by decide, by decide⟩, .inl ⟨by decide, by decide⟩, ?_⟩
    have m1 := Int.emod_nonneg great (show (2305843009213693907 : Int) ≠ 0 by decide)
    have m2 := Int.emod_lt_of_pos great (show (0 : Int) < 2305843009213693907 by decide)
    have m3 : (0 : Int) ≤ (if decide (cell < 0) = true then 1 else 0) ∧ (if decide (cell < 0) = true then (1 : Int) else 0) ≤ 1 := by split <;> decide
    generalize (if decide (cell < 0) = true then (1 : Int) else 0) = neg at m3
    refine ⟨a, _, rfl, hS, for_enum (K := K) (a := a) (xs := ns.map V.int) (fun i σ H2 => ∃ (seed : Int) (pl ot : Option V), σ = [some (.ref a), some (.int at'), some (.int cell), some (.int great), some (.int seed), pl, ot] ∧ 0 ≤ seed ∧ seed < 2 ^ 62 ∧ Same H' H2) ⟨_, _, _, rfl, by omega, by omega, Same.refl _⟩ (fun i σ H2 _ ⟨_, _, _, _, _, _, s5⟩ => s5.seq hS) ?_ ?_⟩
    · rintro i x Tp σ H2 hi ⟨seed, pl, ot, rfl, h1, h2, s5⟩ hT
      obtain ⟨z, hz, rfl⟩ : ∃ z, ns[i]? = some z ∧ x = V.int z := by
        rw [List.getElem?_map] at hi
        cases e : ns[i]? with
        | none => rw [e] at hi; cases hi
        | some z => rw [e] at hi; exact ⟨z, rfl, (Option.some.inj hi).symm⟩
      refine tup2 ?_
      refine ite2 (fun hc => ?_) (fun hc => ?_)
      · refine ⟨.inl ⟨by decide, by decide⟩, by decide, ?_⟩
        have b1 := Int.emod_nonneg (1000003 * seed + z + i) (show (2305843009213693907 : Int) ≠ 0 by decide)
        have b2 := Int.emod_lt_of_pos (1000003 * seed + z + i) (show (0 : Int) < 2305843009213693907 by decide)
        exact ⟨_, _, _, rfl, b1, by omega, s5.new hT⟩
      · exact ⟨_, _, _, rfl, h1, h2, s5.new hT⟩
    · rintro σ H2 ⟨seed, pl, ot, rfl, h1, h2, s5⟩
      refine ⟨pow_ok (by omega) (by omega) (by decide) (by decide), by decide, ?_⟩
      have b1 := Int.emod_nonneg (seed ^ Int.toNat 3) (show (2305843009213693921 : Int) ≠ 0 by decide)
      have b2 := Int.emod_lt_of_pos (seed ^ Int.toNat 3) (show (0 : Int) < 2305843009213693921 by decide)
      refine ⟨pow_ok (by decide) (by decide) (by decide) (by decide), wide_div (by decide) (b := 60) (by decide) (by decide) (by decide), pow_ok (by decide) (by decide) (by decide) (by decide), .inr (by split <;> decide), (by show 3 ≤ sizeLine; decide), fun p hp => ?_⟩
      refine k _ p _ _ (s5.new hp) (s5.free hp) upd_same ?_ b1 (by omega)
      have q0 : 0 ≤ great / (10 : Int) ^ Int.toNat 18 := Int.ediv_nonneg hg0 (by decide)
      split
      · rw [Int.mul_one]; exact q0
      · rw [Int.mul_zero]; exact Int.le_refl _
end
abbrev Dice (g s n : Int) : HO := .lst [.int g, .int s, .int n]
section
variable {P : Program} {w : World} {K : PySem.W.Frag} {mg : Str → Option Value} {base : Heap}
def spOne : Sp := fun vs H Q _ => ∃ (p l : Addr) (xs : List V) (g s n : Int), vs = [.ref p, .ref l] ∧ H p = some (Dice g s n) ∧ H l = some (.lst xs) ∧ l ≠ p ∧ 0 < xs.length ∧ xs.length < 1000 ∧ 0 ≤ g ∧ 0 ≤ s ∧ s < 2 ^ 61 ∧ 0 ≤ n ∧ n < 2 ^ 30 ∧
  ∀ (i : Nat) (v : V) (g' n' : Int), xs[i]? = some v → 0 ≤ g' → n ≤ n' → n' ≤ n + 1 → Q v (upd H p (Dice g' s n'))
theorem ok_one_of {f : Addr} {fd : FuncData} (F : Fun K "_law_one_of" "_law_one_of" s_law_one_of f fd) (T : Txt mg) (O_law_roll : Own P w K mg base CX0 "_law_roll" 1 ["dice", "total"] spRoll) : FnG P w K mg base CX0 2 f fd ["dice", "items"] spOne := by
  have nd := sc_law_one_of.nd
  refine okG F sc_law_one_of (fun vs H Q E h => ?_) (fun cdv A outer s H vs Q E hr h => ?_)
  · obtain ⟨p, l, xs, g, s, n, rfl, _⟩ := h
    rfl
  · obtain ⟨p, l, xs, g, s, n, rfl, hp, hl, hne, h0, h1, h2, h3, h4, h5, h6, k⟩ := h
    refine ⟨_, (pss_one (ps_ret (pe_ixA (av 1) (pe_own O_law_roll hr (pa_cons (av 0) (pa_cons (pe_callB call_lenA (by rfl) T.len PySem.boot_len (pa_cons (av 1) pa_nil)) pa_nil)) (by decide))))), ?_⟩
    refine .inl ⟨xs, SqL.of hl, ?_⟩
    refine ⟨p, _, g, s, n, rfl, hp, by omega, by omega, h2, h3, h4, h5, h6, fun r g' n' r0 r1 g0 n0 n1 => ?_⟩
    obtain ⟨m, rfl⟩ : ∃ m : Nat, r = (m : Int) := ⟨r.toNat, by omega⟩
    have hi : m < xs.length := by omega
    have hx : xs[m]? = some xs[m] := List.getElem?_eq_getElem hi
    refine .inl ⟨xs, xs[m], SqL.of (by rw [upd_ne hne]; exact hl), atI_nat hx, k _ _ g' n' hx g0 n0 n1⟩
end
end K01

set_option Elab.async false
set_option linter.all false
set_option maxRecDepth 100000
set_option maxHeartbeats 4000000
namespace K01
open PySem L2 PySem.KX
/-- what lies beside p stays -/
def Nxt (p : Addr) (H H' : Hp) : Prop := Same (hide [p] H) (hide [p] H')
theorem Nxt.refl {p : Addr} {H : Hp} : Nxt p H H := Same.refl _
theorem Nxt.trans {p : Addr} {H H' H2 : Hp} (a : Nxt p H H') (b : Nxt p H' H2) : Nxt p H H2 := Same.trans a b
theorem Nxt.of {p : Addr} {H H' : Hp} (s : Same H H') : Nxt p H H' := hide_same s
theorem Nxt.upd {p : Addr} {H : Hp} {o : HO} : Nxt p H (upd H p o) := by
  unfold Nxt
  rw [hide_upd]
  exact Same.refl _
theorem Nxt.same {p : Addr} {H1 H H' : Hp} (n : H1 p = none) (s : Same H1 H) (x : Nxt p H H') : Same H1 H' := fun b o e => by
  have hb : b ∉ [p] := fun z => by
    rw [List.mem_singleton.mp z, n] at e
    cases e
  have h := x b o (by rw [hide_in hb]; exact s _ _ e)
  exact (hide_of h).1
theorem new_ne {p q : Addr} {H : Hp} {o : HO} (e : H p = some o) (n : H q = none) : q ≠ p := fun z => by
  rw [z, e] at n
  cases n
theorem erase_perm {α : Type} : ∀ {l : List α} {i : Nat} (h : i < l.length), (l[i] :: l.eraseIdx i).Perm l
  | [], i, h => absurd h (by simp)
  | x :: r, 0, _ => List.Perm.refl _
  | x :: r, i + 1, h => by
    have h2 : i < r.length := by simpa using h
    show (r[i] :: x :: r.eraseIdx i).Perm (x :: r)
    exact (List.Perm.swap x r[i] _).trans (List.Perm.cons x (erase_perm h2))
abbrev s_law_mixed : Stmt := top 32
theorem sc_law_mixed : FnScope ["dice", "items", "left", "turn"] ["dice", "items"] (defScope s_law_mixed) := ⟨rfl, rfl, rfl, by decide +kernel, rfl, by decide +kernel, by decide +kernel⟩
structure TxtX (mg : Str → Option Value) : Prop where
  list : mg "list" = none
  range : mg "range" = none
  len : mg "len" = none
section
variable {P : Program} {w : World} {K : PySem.W.Frag} {mg : Str → Option Value} {base : Heap}
/-- a new list of the same items in some order; nothing changes but the dice at p -/
def spMix (K : PySem.W.Frag) : Sp := fun vs H Q _ => ∃ (p l : Addr) (xs : List V) (g s n : Int), vs = [.ref p, .ref l] ∧ H p = some (Dice g s n) ∧ (SqL K H l xs ∨ SqT K H l xs) ∧ xs.length ≤ 1000 ∧ 0 ≤ g ∧ 0 ≤ s ∧ s < 2 ^ 61 ∧ 0 ≤ n ∧ n + 1000 < 2 ^ 30 ∧
  ∀ (ys : List V) (q : Addr) (H' : Hp) (g' n' : Int), ys.Perm xs → Nxt p H H' → H' p = some (Dice g' s n') → 0 ≤ g' → n ≤ n' → n' ≤ n + xs.length → H q = none → H' q = some (.lst ys) → Q (.ref q) H'
theorem ok_mixed {f : Addr} {fd : FuncData} (F : Fun K "_law_mixed" "_law_mixed" s_law_mixed f fd) (T : TxtX mg) (O_law_roll : Own P w K mg base CX0 "_law_roll" 1 ["dice", "total"] spRoll) : FnG P w K mg base CX0 2 f fd ["dice", "items"] (spMix K) := by
  have nd := sc_law_mixed.nd
  refine okG F sc_law_mixed (fun vs H Q E h => ?_) (fun cdv A outer s H vs Q E hr h => ?_)
  · obtain ⟨_, _, _, _, _, _, rfl, _⟩ := h
    rfl
  · obtain ⟨p, l, xs, g, s, n, rfl, hp, hl, hn, h0, h1, h2, h3, h4, k⟩ := h
    refine ⟨_, (pss_cons (ps_set (i := 2) nd rfl (Or.inr rfl) (pe_callTy call_listA (by rfl) T.list (by decide +kernel) (pa_cons (av 1) pa_nil)))
      (pss_one (ps_ret (pe_lc (own := [("turn", 3)]) (by rfl) nd (pi_range1 (by rfl) T.range (pa_cons (pe_callB call_lenA (by rfl) T.len PySem.boot_len (pa_cons (av 2) pa_nil)) pa_nil)) (blkOk_by (N := ["dice", "items", "left", "turn"]) (sc := defScope s_law_mixed) (by decide +kernel)) (fun _ _ _ _ _ => (pg_name (i := 3) nd rfl (Or.inl rfl))) (fun _ _ _ _ _ => pts_nil)
        (fun _ _ _ _ _ => (show PE _ _ (tBM K "list" rPopAt (aVar 2) (tCons (tCall spRoll [] E0 (tCons (aVar 0) (tCons (tCB (rLenA K) (tCons (aVar 2) tNil)) tNil))) tNil)) from pe_bm PySem.F.plainAttrs_list PySem.F.slot_list_pop PySem.F.type_list_pop mt_popAt (av 2) (pa_cons (pe_own O_law_roll hr (pa_cons (av 0) (pa_cons (pe_callB call_lenA (by rfl) T.len PySem.boot_len (pa_cons (av 2) pa_nil)) pa_nil)) (by decide)) pa_nil))))))), ?_⟩
    refine ⟨xs, hl, fun L nL => ?_⟩
    have hLp : L ≠ p := fun z => by
      rw [z, hp] at nL
      cases nL
    generalize gL : upd H L (.lst xs) = H1
    have s1 : Same H H1 := by rw [← gL]; exact (Same.refl H).new nL
    have lL : H1 L = some (.lst xs) := (congrFun gL L).symm.trans upd_same
    clear gL
    refine .inl ⟨xs, SqL.of lL, _, rfl, by omega, by omega, fun D hD => ?_⟩
    have hDp : D ≠ p := fun z => by
      rw [z, s1 _ _ hp] at hD
      cases hD
    have hDL : D ≠ L := fun z => by
      rw [z, lL] at hD
      cases hD
    refine lc_range (lo := 0) (n := (xs.length : Int).toNat) (fun i H' => ∃ (acc rest : List V) (g' n' : Int), H' D = some (.lst acc) ∧ H' L = some (.lst rest) ∧ (acc ++ rest).Perm xs ∧ acc.length = i ∧ H' p = some (Dice g' s n') ∧ 0 ≤ g' ∧ n ≤ n' ∧ n' ≤ n + i ∧ ∀ b o, b ≠ p → H b = some o → H' b = some o)
      ⟨[], xs, g, n, upd_same, by rw [upd_ne (Ne.symm hDL)]; exact lL, List.Perm.refl _, rfl, by rw [upd_ne (Ne.symm hDp)]; exact s1 _ _ hp, h0, by omega, by omega, fun b o _ e => ((s1.new hD) b o e)⟩ ?_ ?_
    · rintro i H' hi ⟨acc, rest, g', n', hDa, hLa, hpm, hli, hpa, b1, b2, b3, hk⟩
      have hlen : acc.length + rest.length = xs.length := by rw [← hpm.length_eq, List.length_append]
      refine ⟨rfl, .inl ⟨rfl, rest, SqL.of hLa⟩, .inl ⟨rest, SqL.of hLa, p, rest.length, g', s, n', rfl, hpa, by omega, by omega, b1, h1, h2, by omega, by omega, fun r g2 n2 r0 r1 c0 c1 c2 => ?_⟩⟩
      obtain ⟨m, rfl⟩ : ∃ m : Nat, r = (m : Int) := ⟨r.toNat, by omega⟩
      have hm : m < rest.length := by omega
      obtain ⟨j, e1, e2, e3, _⟩ := atI_get (atI_nat (List.getElem?_eq_getElem hm))
      refine ⟨L, rest, m, j, rest[m], rfl, rfl, by rw [upd_ne hLp]; exact hLa, by omega, by omega, e1, e2, ?_⟩
      · refine ⟨acc, by rw [upd_ne hDL, upd_ne hDp]; exact hDa, by rw [sizeLine_eq]; omega, acc ++ [rest[m]], rest.eraseIdx j, g2, n2, upd_same, by rw [upd_ne (Ne.symm hDL), upd_same], ?_, by simp [hli], by rw [upd_ne (Ne.symm hDp), upd_ne (Ne.symm hLp), upd_same], c0, by omega, by omega, fun b o hb e => ?_⟩
        · rw [List.append_assoc]
          refine (List.Perm.append_left acc ?_).trans hpm
          have e4 : rest[j] = rest[m] := Option.some.inj ((List.getElem?_eq_getElem e3).symm.trans e2)
          show (rest[m] :: rest.eraseIdx j).Perm rest
          rw [← e4]
          exact erase_perm e3
        · rw [upd_ne (fun z => by rw [z] at e; have := s1 _ _ e; rw [hD] at this; cases this), upd_ne (fun z => by rw [z, nL] at e; cases e), upd_ne hb]
          exact hk b o hb e
    · rintro H' ⟨acc, rest, g', n', hDa, hLa, hpm, hli, hpa, b1, b2, b3, hk⟩
      have hlen : acc.length + rest.length = xs.length := by rw [← hpm.length_eq, List.length_append]
      have hr0 : rest = [] := List.length_eq_zero_iff.mp (by omega)
      subst hr0
      rw [List.append_nil] at hpm
      refine k acc D H' g' n' hpm (fun b o e => ?_) hpa b1 b2 (by omega) (s1.free hD) hDa
      obtain ⟨e1, e2⟩ := hide_of e
      rw [hide_in e2]
      exact hk b o (fun z => e2 (by rw [z]; exact List.mem_singleton.mpr rfl)) e1
end
end K01

set_option Elab.async false
set_option linter.all false
set_option maxRecDepth 100000
set_option maxHeartbeats 4000000
namespace K01
open PySem L2 PySem.KX
abbrev s_law_is_number : Stmt := top 35
theorem sc_law_is_number : FnScope ["thing", "low", "high"] ["thing", "low", "high"] (defScope s_law_is_number) := ⟨rfl, rfl, rfl, by decide +kernel, rfl, by decide +kernel, by decide +kernel⟩
abbrev s_law_are_places : Stmt := top 37
theorem sc_law_are_places : FnScope ["thing", "places", "place"] ["thing", "places"] (defScope s_law_are_places) := ⟨rfl, rfl, rfl, by decide +kernel, rfl, by decide +kernel, by decide +kernel⟩
def allIn (n : Int) : PyData → Bool
  | .tuple ds => ds.all (intIn 0 (n - 1))
  | _ => false
theorem ones_lay : ∀ k : Nat, PyData.canLayAll0 (List.replicate k (PyData.int 1)) = true
  | 0 => by simp [PyData.canLayAll0]
  | k + 1 => by
    rw [List.replicate_succ]
    simp only [PyData.canLayAll0, PyData.canLay0, ones_lay k, Bool.and_self]
theorem ones_depth : ∀ k : Nat, PyData.depthAll (List.replicate k (PyData.int 1)) = 0
  | 0 => by simp [PyData.depthAll]
  | k + 1 => by
    rw [List.replicate_succ]
    simp [PyData.depthAll, PyData.depth, ones_depth k]
theorem ones_ok (k : Nat) : SeqAt.shaped (.list (List.replicate k (PyData.int 1))) = true := by
  unfold SeqAt.shaped
  simp only [PyData.canLay0, ones_lay, PyData.depth, ones_depth, Bool.and_eq_true, decide_eq_true_eq]
  exact ⟨trivial, by omega⟩
theorem ones_eqv (k : Nat) : PyData.eqv (.list (List.replicate k (PyData.int 1))) (.list []) = decide (k = 0) := by
  cases k with
  | zero => rfl
  | succ k =>
    rw [List.replicate_succ]
    rfl
theorem none_left {ds : List PyData} {f : PyData → Bool} : decide ((pas (fun j => !f (ds.getD j .none)) ds.length).length = 0) = ds.all f := by
  cases c : ds.all f with
  | true =>
    refine decide_eq_true (List.length_eq_zero_iff.mpr (List.filter_eq_nil_iff.mpr fun j hj => ?_))
    have hj' : j < ds.length := List.mem_range.mp hj
    have e : ds.getD j .none = ds[j] := by rw [List.getD_eq_getElem?_getD, List.getElem?_eq_getElem hj']; rfl
    rw [e, List.all_eq_true.mp c _ (List.getElem_mem hj')]
    decide
  | false =>
    refine decide_eq_false fun z => ?_
    have h := List.filter_eq_nil_iff.mp (List.length_eq_zero_iff.mp z)
    have : ds.all f = true := List.all_eq_true.mpr fun d hd => by
      obtain ⟨j, hj⟩ := List.getElem?_of_mem hd
      have hj' := (List.getElem?_eq_some_iff.mp hj).1
      have h2 := h j (List.mem_range.mpr hj')
      rw [List.getD_eq_getElem?_getD, hj] at h2
      cases q : f d with
      | true => rfl
      | false =>
        have h3 : ¬ (!f d) = true := h2
        rw [q] at h3
        exact absurd rfl h3
    rw [c] at this
    cases this
theorem all_ones {acc : List V} (h : ∀ (i : Nat) (v : V), acc[i]? = some v → v = .int 1) : acc = List.replicate acc.length (.int 1) := by
  refine List.ext_getElem? fun i => ?_
  by_cases hi : i < acc.length
  · rw [List.getElem?_eq_getElem hi, h i _ (List.getElem?_eq_getElem hi), List.getElem?_replicate, if_pos hi]
  · rw [List.getElem?_eq_none (by omega), List.getElem?_replicate, if_neg hi]
theorem dq_ones {K : PySem.W.Frag} {H : Hp} : ∀ k : Nat, DqAll K H (List.replicate k (V.int 1)) (List.replicate k (PyData.int 1))
  | 0 => .nil
  | k + 1 => .cons (.int 1) (dq_ones k)
section
variable {P : Program} {w : World} {K : PySem.W.Frag} {mg : Str → Option Value} {base : Heap}
theorem ok_law_number {f : Addr} {fd : FuncData} (F : Fun K "_law_is_number" "_law_is_number" s_law_is_number f fd) (T : TxtA mg) : FnG P w K mg base CX0 1 f fd ["thing", "low", "high"] (spWithin K) := by
  have nd := sc_law_is_number.nd
  refine okG F sc_law_is_number (fun vs H Q E h => ?_) (fun cdv A outer s H vs Q E hr h => ?_)
  · obtain ⟨_, _, _, _, rfl, _⟩ := h
    rfl
  · obtain ⟨v, d, lo, hi, rfl, hd, k⟩ := h
    refine ⟨_, (pss_one (ps_ret (pe_and (pe_callB call_isiA (by rfl) T.isinstance (by decide +kernel) (pa_cons (av 0) (pa_cons (pe_bltn (v := .ty "int") (u := .type "int") rfl T.int (by decide +kernel) rfl) pa_nil))) (pe_and (pe_not (pe_callB call_isiA (by rfl) T.isinstance (by decide +kernel) (pa_cons (av 0) (pa_cons (pe_bltn (v := .ty "bool") (u := .type "bool") rfl T.bool (by decide +kernel) rfl) pa_nil)))) (pe_one (pe_chain op_leA op_leA (av 1) (av 0) (av 2))))))), ?_⟩
    refine ⟨_, _, _, _, _, rfl, .ty _, hd.dq.ty, kit_ty (kit_int d), _, rfl, ?_⟩
    cases hd.dq with
    | int i =>
      refine ⟨_, _, _, _, _, rfl, .ty _, .x (.base (.int i)), kit_ty (kit_bool (.int i)), _, rfl, _, rfl, ?_⟩
      refine ⟨_, rfl, ?_⟩
      have e : intIn lo hi (.int i) = (decide (lo ≤ i) && decide (i ≤ hi)) := rfl
      rw [e] at k
      refine ite2 (fun c => ?_) (fun c => ?_)
      · have c' : decide (lo ≤ i) = true := c
        rw [c'] at k
        exact k
      · have c' : decide (lo ≤ i) = false := Bool.eq_false_iff.mpr c
        rw [c'] at k
        exact k
    | bl b => exact ⟨_, _, _, _, _, rfl, .ty _, .x (.base (.bl b)), kit_ty (kit_bool (.bool b)), _, rfl, _, rfl, k⟩
    | non => exact k
    | str x => exact k
    | lst h1 h2 => exact k
    | tup h1 h2 => exact k
    | emp h1 => exact k
def spAllIn (K : PySem.W.Frag) : Sp := fun vs H Q _ => ∃ (v : V) (d : PyData) (n : Int), vs = [v, .int n] ∧ Wd K H v d ∧ ∀ H', Same H H' → Q (.bl (allIn n d)) H'
theorem ok_law_places {f : Addr} {fd : FuncData} (F : Fun K "_law_are_places" "_law_are_places" s_law_are_places f fd) (T : TxtA mg) (O_num : Own P w K mg base CX0 "_law_is_number" 1 ["thing", "low", "high"] (spWithin K)) : FnG P w K mg base CX0 2 f fd ["thing", "places"] (spAllIn K) := by
  have nd := sc_law_are_places.nd
  refine okG F sc_law_are_places (fun vs H Q E h => ?_) (fun cdv A outer s H vs Q E hr h => ?_)
  · obtain ⟨_, _, _, rfl, _⟩ := h
    rfl
  · obtain ⟨v, d, n, rfl, hd, k⟩ := h
    refine ⟨_, (pss_one (ps_ret (pe_and (pe_callB call_isiA (by rfl) T.isinstance (by decide +kernel) (pa_cons (av 0) (pa_cons (pe_bltn (v := .ty "tuple") (u := .type "tuple") rfl T.tuple (by decide +kernel) rfl) pa_nil))) (pe_one (pe_cmpA (op_eqQ hr.units64) (pe_lc (own := [("place", 2)]) (by rfl) nd (pi_tup (av 0)) (blkOk_by (N := ["thing", "places", "place"]) (sc := defScope s_law_are_places) (by decide +kernel)) (fun _ _ _ _ _ => (pg_name (i := 2) nd rfl (Or.inl rfl)))
      (fun _ _ _ _ _ => pts_one (PT.up (pt_not (pt_valA (pe_own O_num hr (pa_cons (av 2) (pa_cons pe_int (pa_cons (pe_op op_subA (av 1) pe_int) pa_nil))) (by decide)))))) (fun _ _ _ _ _ => PE.up pe_int)) (pe_lstS pa_nil)))))), ?_⟩
    refine ⟨_, _, _, _, _, rfl, .ty _, hd.dq.ty, kit_ty (kit_tuple d), _, rfl, ?_⟩
    have no : isTupB d = false → allIn n d = false := fun e => by
      cases d <;> first | rfl | cases e
    cases hb : isTupB d with
    | false =>
      rw [no hb] at k
      exact iteF (k _ (Same.refl _))
    | true =>
      refine (iteT ?_ : if true = true then _ else Q (.bl false) H)
      obtain ⟨hdq, hsm⟩ := hd
      cases hdq with
      | @tup a xs ds hq ha =>
        have hlen := ha.length
        obtain ⟨hn, hs2⟩ := smQ_tup hsm
        refine ⟨a, rfl, ⟨_, hq⟩, fun D hD => ?_⟩
        refine lc_itF (walk_tup (xs := xs)) (fun j => !intIn 0 (n - 1) (ds.getD j .none)) (fun j u _ => u = .int 1) (fun _ _ _ _ _ h => h) hD (by omega) (fun H' s5 => s5.sqT hq) (fun j y H' H2 hj s5 hD5 ⟨e2, hy⟩ => ?_) gName_mono (fun H' acc s6 hl la hacc => ?_)
        · subst e2
          obtain ⟨d, h1, h2⟩ := ha.get hy
          refine ⟨rfl, y, d, 0, n - 1, rfl, ⟨Dq.same s5 _ _ h2, smQ_mem hs2 h1⟩, ?_, Same.refl _, fun _ => ⟨Same.refl _, rfl⟩⟩
          rw [List.getD_eq_getElem?_getD, h1]
          rfl
        · have ea := all_ones fun i v hv => by
            obtain ⟨_, _, r⟩ := hacc i v hv
            exact r
          refine ⟨by simp, fun q H2 s7 n7 l7 => ?_⟩
          have e1 : PyData.eqv (.list (List.replicate acc.length (PyData.int 1))) (.list []) = allIn n (.tuple ds) := by
            rw [ones_eqv, la, hlen]
            exact none_left
          refine ⟨.list (List.replicate acc.length (.int 1)), .list [], .lst (SqL.of (by rw [← ea]; exact s7 _ _ hl)) (dq_ones _), .lst (SqL.of l7) .nil, ones_ok _, by decide +kernel, ?_⟩
          rw [e1]
          exact k _ (s6.trans s7)
      | _ => cases hb
end
end K01

set_option Elab.async false
set_option linter.all false
set_option maxRecDepth 100000
set_option maxHeartbeats 4000000
namespace K01
open PySem L2 PySem.KX
/-! dice that were rolled at most m times -/
def Dc (p : Addr) (m : Int) (H : Hp) : Prop := ∃ g s n : Int, H p = some (Dice g s n) ∧ 0 ≤ g ∧ 0 ≤ s ∧ s < 2 ^ 61 ∧ 0 ≤ n ∧ n ≤ m
theorem Dc.some {p : Addr} {m : Int} {H : Hp} (h : Dc p m H) : H p ≠ none := by
  obtain ⟨g, s, n, h, _⟩ := h
  rw [h]
  exact fun z => nomatch z
theorem Dc.mono {p : Addr} {m k : Int} {H : Hp} (h : Dc p m H) (l : m ≤ k) : Dc p k H := by
  obtain ⟨g, s, n, h, h1, h2, h3, h4, h5⟩ := h
  exact ⟨g, s, n, h, h1, h2, h3, h4, by omega⟩
theorem Dc.same {p : Addr} {m : Int} {H H' : Hp} (h : Dc p m H) (e : Same H H') : Dc p m H' := by
  obtain ⟨g, s, n, h, r⟩ := h
  exact ⟨g, s, n, e _ _ h, r⟩
theorem Dc.upd {p q : Addr} {m : Int} {H : Hp} {o : HO} (h : Dc p m H) (ne : q ≠ p) : Dc p m (upd H q o) := by
  obtain ⟨g, s, n, h, r⟩ := h
  exact ⟨g, s, n, by rw [upd_ne (Ne.symm ne)]; exact h, r⟩
theorem Dc.ne {p q : Addr} {m : Int} {H : Hp} (h : Dc p m H) (n : H q = none) : q ≠ p := fun z => h.some (z ▸ n)
theorem Dc.pos {p : Addr} {m : Int} {H : Hp} (h : Dc p m H) : 0 ≤ m := by
  obtain ⟨g, s, n, h, h1, h2, h3, h4, h5⟩ := h
  omega
theorem nxt_of {p : Addr} {H H' : Hp} (h : ∀ b o, b ≠ p → H b = some o → H' b = some o) : Nxt p H H' := fun b o e => by
  obtain ⟨e1, e2⟩ := hide_of e
  rw [hide_in e2]
  exact h b o (fun z => e2 (by rw [z]; exact List.mem_singleton.mpr rfl)) e1
theorem Nxt.get {p b : Addr} {H H' : Hp} {o : HO} (h : Nxt p H H') (ne : b ≠ p) (e : H b = some o) : H' b = some o := by
  have hb : b ∉ [p] := fun z => ne (List.mem_singleton.mp z)
  exact (hide_of (h b o (by rw [hide_in hb]; exact e))).1
theorem Nxt.of_eq {p : Addr} {H H' : Hp} (h : ∀ b, b ≠ p → H' b = H b) : Nxt p H H' := nxt_of fun b o hb e => by rw [h b hb]; exact e
theorem Nxt.put {p q : Addr} {H H' : Hp} {o : HO} (h : Nxt p H H') (n : H q = none) : Nxt p H (L2.upd H' q o) := nxt_of fun b u hb e => by
  rw [upd_ne (ne_of_none e n)]
  exact h.get hb e
theorem Nxt.free {p q : Addr} {H H' : Hp} (h : Nxt p H H') (ne : q ≠ p) (n : H' q = none) : H q = none := by
  cases e : H q with
  | none => rfl
  | some o =>
    rw [h.get ne e] at n
    cases n
def spRollD : Sp := fun vs H Q _ => ∃ (p : Addr) (m total : Int), vs = [.ref p, .int total] ∧ Dc p m H ∧ m < 2 ^ 30 ∧ 0 < total ∧ total < 2 ^ 60 ∧
  ∀ (r : Int) (H' : Hp), 0 ≤ r → r < total → Dc p (m + 1) H' → (∀ b, b ≠ p → H' b = H b) → Q (.int r) H'
def spOneD : Sp := fun vs H Q _ => ∃ (p l : Addr) (m : Int) (xs : List V), vs = [.ref p, .ref l] ∧ Dc p m H ∧ H l = some (.lst xs) ∧ m < 2 ^ 30 ∧ l ≠ p ∧ 0 < xs.length ∧ xs.length < 1000 ∧
  ∀ (i : Nat) (v : V) (H' : Hp), xs[i]? = some v → Dc p (m + 1) H' → (∀ b, b ≠ p → H' b = H b) → Q v H'
def spMixD (K : PySem.W.Frag) : Sp := fun vs H Q _ => ∃ (p l : Addr) (m : Int) (xs : List V), vs = [.ref p, .ref l] ∧ Dc p m H ∧ m + 1000 < 2 ^ 30 ∧ (SqL K H l xs ∨ SqT K H l xs) ∧ xs.length ≤ 1000 ∧
  ∀ (ys : List V) (q : Addr) (H' : Hp), ys.Perm xs → Nxt p H H' → Dc p (m + xs.length) H' → H q = none → H' q = some (.lst ys) → Q (.ref q) H'
theorem _root_.L2.FnG.imp {P : Program} {w : World} {K : PySem.W.Frag} {mg : Str → Option Value} {base : Heap} {CX : CXT} {k : Nat} {f : Addr} {fd : FuncData} {ps : List Str} {sp sp' : Sp} (F : FnG P w K mg base CX k f fd ps sp) (h : ∀ vs H Q E, sp' vs H Q E → sp vs H Q E) : FnG P w K mg base CX k f fd ps sp' :=
  ⟨fun vs H Q E q => F.len vs H Q E (h _ _ _ _ q), fun A outer s H args us vs Q E hr e b v q => F.run A outer s H args us vs Q E hr e b v (h _ _ _ _ q)⟩
theorem rollD {vs : List V} {H : Hp} {Q : VK} {E : XK} (h : spRollD vs H Q E) : spRoll vs H Q E := by
  obtain ⟨p, m, total, rfl, ⟨g, s, n, h, g0, s0, s1, n0, n1⟩, h1, h2, h3, k⟩ := h
  exact ⟨p, total, g, s, n, rfl, h, h2, h3, g0, s0, s1, n0, by omega, fun r g' n' r0 r1 c0 c1 c2 => k r _ r0 r1 ⟨g', s, n', upd_same, c0, s0, s1, by omega, by omega⟩ fun b hb => upd_ne hb⟩
theorem oneD {vs : List V} {H : Hp} {Q : VK} {E : XK} (h : spOneD vs H Q E) : spOne vs H Q E := by
  obtain ⟨p, l, m, xs, rfl, ⟨g, s, n, h, g0, s0, s1, n0, n1⟩, hl, h1, ne, h2, h3, k⟩ := h
  exact ⟨p, l, xs, g, s, n, rfl, h, hl, ne, h2, h3, g0, s0, s1, n0, by omega, fun i v g' n' e c0 c1 c2 => k i v _ e ⟨g', s, n', upd_same, c0, s0, s1, by omega, by omega⟩ fun b hb => upd_ne hb⟩
theorem mixD {K : PySem.W.Frag} {vs : List V} {H : Hp} {Q : VK} {E : XK} (h : spMixD K vs H Q E) : spMix K vs H Q E := by
  obtain ⟨p, l, m, xs, rfl, ⟨g, s, n, h, g0, s0, s1, n0, n1⟩, h1, hl, h2, k⟩ := h
  exact ⟨p, l, xs, g, s, n, rfl, h, hl, h2, g0, s0, s1, n0, by omega, fun ys q H' g' n' e1 e2 e3 c0 c1 c2 e4 e5 => k ys q H' e1 e2 ⟨g', s, n', e3, c0, s0, s1, by omega, by omega⟩ e4 e5⟩
end K01

set_option Elab.async false
set_option linter.all false
set_option maxRecDepth 100000
set_option maxHeartbeats 4000000
namespace K01
open PySem L2 PySem.KX
abbrev s_law_words : Stmt := top 33
theorem sc_law_words : FnScope ["dice", "total", "letters", "found", "at", "word", "turn"] ["dice", "total"] (defScope s_law_words) := ⟨rfl, rfl, rfl, by decide +kernel, rfl, by decide +kernel, by decide +kernel⟩
abbrev abc : Str := "abcdefghijklmnopqrstuvwxyz"
theorem abc_at : ∀ j : Fin 26, abc.cps.toList[j.val]? = some (97 + j.val) := by decide +kernel
theorem abc_occ : ∀ j : Fin 26, Builtin.Str.occurrences abc ⟨#[97 + j.val]⟩ 0 abc.length 1 = [j.val] := by decide +kernel
theorem abc_get {m : Nat} (h : m < 26) : atI abc.cps.toList (m : Int) = some (97 + m) := atI_nat (abc_at ⟨m, h⟩)
theorem inV_str {x : Str} {fs : List Str} : inV (.str x) (fs.map V.str) = decide (x ∈ fs) := by
  unfold inV
  rw [List.any_map]
  by_cases h : x ∈ fs
  · rw [decide_eq_true h]
    exact List.any_eq_true.mpr ⟨x, h, by simp [eqV]⟩
  · rw [decide_eq_false h]
    refine List.any_eq_false.mpr fun y hy e => h ?_
    have e2 : (y == x) = true := e
    have e3 : y = x := by simpa using e2
    rw [← e3]
    exact hy
theorem flat_strs (fs : List Str) : (fs.map V.str).all flatV = true := by
  rw [List.all_map]
  exact List.all_eq_true.mpr fun _ _ => rfl
/-- a word -/
structure WordL (l : List Nat) : Prop where
  one : 1 ≤ l.length
  eight : l.length ≤ 8
  low : l.all lowL = true
theorem WordL.name {l : List Nat} (h : WordL l) : isNameD (.str (wT l)) = true := by
  show ((decide (1 ≤ (wT l).length) && decide ((wT l).length ≤ 8)) && (wT l).cps.toList.all lowC) = true
  rw [wT_len, decide_eq_true h.one, decide_eq_true h.eight]
  show (l.toArray.toList).all lowC = true
  rw [show l.toArray.toList = l from by simp]
  exact h.low

theorem cut_to (z : Str) (k : Nat) : cutS z none (some (k : Int)) = wT (z.cps.toList.take k) := by
  unfold cutS
  rw [HT.sIx_none, HT.sIx_nat]
  show (⟨((z.cps.toList.drop 0).take (min k z.length - 0)).toArray⟩ : Str) = _
  have : z.cps.toList.length = z.length := by show _ = z.cps.size; simp
  rw [List.drop_zero, Nat.sub_zero, ← this]
  congr 2
  exact List.take_eq_take_iff.mpr (by omega)
theorem cut_from (z : Str) (k : Nat) : cutS z (some (k : Int)) none = wT (z.cps.toList.drop k) := by
  unfold cutS
  rw [HT.sIx_none, HT.sIx_nat]
  have e : z.cps.toList.length = z.length := by show _ = z.cps.size; simp
  show (⟨((z.cps.toList.drop (min k z.length)).take (z.length - min k z.length)).toArray⟩ : Str) = _
  rw [← e, List.take_of_length_le (by simp)]
  by_cases h : k ≤ z.cps.toList.length
  · rw [Nat.min_eq_left h]
  · rw [Nat.min_eq_right (by omega), List.drop_length, List.drop_of_length_le (by omega)]
abbrev WordS (x : Str) : Prop := WordL x.cps.toList
theorem wordS_of {l : List Nat} (h : WordL l) : WordS (wT l) := by
  show WordL (l.toArray.toList)
  simpa using h
theorem WordS.name {x : Str} (h : WordS x) : isNameD (.str x) = true := by
  have := WordL.name h
  rw [← wT_eta x] at this
  exact this
theorem low_ok {l : List Nat} (h : l.all lowL = true) : PyData.strOk (wT l) = true := by
  unfold PyData.strOk
  rw [← Array.all_toList]
  refine List.all_eq_true.mpr fun c hc => ?_
  have := lowL_iff.mp (List.all_eq_true.mp h c (by simpa using hc))
  exact decide_eq_true (by omega)
theorem strs_lay : ∀ fs : List Str, (∀ x ∈ fs, WordS x) → PyData.canLayAll0 (fs.map PyData.str) = true
  | [], _ => by simp [PyData.canLayAll0]
  | x :: r, h => by
    have h1 := low_ok (h x List.mem_cons_self).low
    rw [← wT_eta x] at h1
    simp only [List.map_cons, PyData.canLayAll0, PyData.canLay0, strs_lay r fun y hy => h y (List.mem_cons_of_mem _ hy), Bool.and_true]
    exact h1
theorem strs_depth : ∀ fs : List Str, PyData.depthAll (fs.map PyData.str) = 0
  | [] => by simp [PyData.depthAll]
  | x :: r => by simp [PyData.depthAll, PyData.depth, strs_depth r]
theorem dq_strs {K : PySem.W.Frag} {H : Hp} : ∀ fs : List Str, DqAll K H (fs.map V.str) (fs.map PyData.str)
  | [] => .nil
  | x :: r => .cons (.str x) (dq_strs r)
theorem eqv_nil {ds : List PyData} : PyData.eqv (.list ds) (.list []) = decide (ds = []) := by
  cases ds <;> rfl
structure TxtW (mg : Str → Option Value) : Prop where
  range : mg "range" = none
theorem eqx_trans {p : Addr} {H H' H2 : Hp} (a : ∀ b, b ≠ p → H' b = H b) (c : ∀ b, b ≠ p → H2 b = H' b) : ∀ b, b ≠ p → H2 b = H b := fun b hb => (c b hb).trans (a b hb)
section
variable {P : Program} {w : World} {K : PySem.W.Frag} {mg : Str → Option Value} {base : Heap}
/-- total words, no two equal -/
def spWords : Sp := fun vs H Q _ => ∃ (p : Addr) (m : Int) (total : Nat), vs = [.ref p, .int (total : Nat)] ∧ Dc p m H ∧ total ≤ 26 ∧ m + 1000 < 2 ^ 30 ∧
  ∀ (fs : List Str) (q : Addr) (H' : Hp), fs.length = total → fs.Nodup → (∀ x ∈ fs, WordS x) → Nxt p H H' → Dc p (m + 300) H' → H q = none → H' q = some (.lst (fs.map V.str)) → Q (.ref q) H'
theorem ok_words {f : Addr} {fd : FuncData} (F : Fun K "_law_words" "_law_words" s_law_words f fd) (T : TxtW mg) (O_law_roll : Own P w K mg base CX0 "_law_roll" 1 ["dice", "total"] spRollD) : FnG P w K mg base CX0 2 f fd ["dice", "total"] spWords := by
  have nd := sc_law_words.nd
  refine okG F sc_law_words (fun vs H Q E h => ?_) (fun cdv A outer s H vs Q E hr h => ?_)
  · obtain ⟨_, _, _, rfl, _⟩ := h
    rfl
  · obtain ⟨p, m, total, rfl, hp, ht, hm, k⟩ := h
    refine ⟨_, (pss_cons (ps_par (i := 2) (j := 3) (by rfl) nd rfl rfl (by decide) rfl rfl (pa_cons pe_str (pa_cons (pe_lstS pa_nil) pa_nil)) (by rfl))
      (pss_cons (ps_for PassesOwn.never rfl (pi_range1 (by rfl) T.range (pa_cons (av 1) pa_nil)) (pg_name (i := 4) nd rfl (Or.inl rfl)) (pss_cons (ps_set (i := 5) nd rfl (Or.inl rfl) pe_str)
      (pss_cons (ps_for PassesOwn.never rfl (pi_range1 (by rfl) T.range (pa_cons (pe_ixA (pe_lstS (pa_cons pe_int (pa_cons pe_int (pa_cons pe_int (pa_cons pe_int pa_nil))))) (pe_own O_law_roll hr (pa_cons (av 0) (pa_cons pe_int pa_nil)) (by decide))) pa_nil)) (pg_name (i := 6) nd rfl (Or.inl rfl)) (pss_one (ps_set (i := 5) nd rfl (Or.inl rfl) (pe_op op_addA (av 5) (pe_ixA (av 2) (pe_own O_law_roll hr (pa_cons (av 0) (pa_cons pe_int pa_nil)) (by decide)))))))
      (pss_cut (ps_if (PW.pt (pw_and (pt_cmpA (op_neQ hr.units64) (av 3) (pe_lstS pa_nil)) (pw_and1 (pt_cmpA (op_eqA hr.units64) (pe_own O_law_roll hr (pa_cons (av 0) (pa_cons pe_int pa_nil)) (by decide)) pe_int)))) (pss_one (ps_set (i := 5) nd rfl (Or.inl rfl) (pe_slice sl_str (pe_op op_addA (pe_ixA (av 3) (pe_un un_neg pe_int)) pe_str) po_none (po_some pe_int)))) pss_nil)
      (pss_cons (ps_for PassesOwn.never rfl (pi_range1 (by rfl) T.range (pa_cons (av 1) pa_nil)) (pg_name (i := 6) nd rfl (Or.inl rfl)) (pss_one (ps_if (pt_cmpA op_in_seq (av 5) (av 3)) (pss_one (ps_set (i := 5) nd rfl (Or.inl rfl) (pe_op op_addA (pe_ixA (av 2) (pe_op op_modA (pe_op op_addA (pe_bm PySem.F.plainAttrs_str PySem.F.slot_str_index PySem.F.type_str_index mt_sindex (av 2) (pa_cons (pe_ixA (av 5) pe_int) pa_nil)) pe_int) pe_int)) (pe_slice sl_str (av 5) (po_some pe_int) po_none)))) pss_nil)))
      (pss_cons (ps_for PassesOwn.never rfl (pi_range1 (by rfl) T.range (pa_cons (av 1) pa_nil)) (pg_name (i := 6) nd rfl (Or.inl rfl)) (pss_one (ps_if (pt_cmpA op_in_seq (av 5) (av 3)) (pss_one (ps_set (i := 5) nd rfl (Or.inl rfl) (pe_slice sl_str (pe_op op_addA (av 5) (pe_ixA pe_str (pe_op op_modA (av 6) pe_int))) (po_some (pe_un un_neg pe_int)) po_none))) pss_nil)))
      (pss_one (ps_expr (pe_bm PySem.F.plainAttrs_list PySem.F.slot_list_append PySem.F.type_list_append mt_append (av 3) (pa_cons (av 5) pa_nil))))))))))
      (pss_one (ps_ret (av 3))))), ?_⟩
    refine ⟨by simp, fun q H1 s1 n1 l1 => ?_⟩
    have hqp : q ≠ p := hp.ne n1
    refine ⟨_, _, rfl, ?_⟩
    refine ⟨_, rfl, by omega, by omega, for_range (lo := 0) (n := ((total : Nat) : Int).toNat) (fun i σ H' => ∃ (fs : List Str) (o4 o5 o6 : Option V), σ = [some (.ref p), some (.int (total : Nat)), some (.str abc), some (.ref q), o4, o5, o6] ∧ H' q = some (.lst (fs.map V.str)) ∧ fs.length = i ∧ fs.Nodup ∧ (∀ x ∈ fs, WordS x) ∧ Nxt p H H' ∧ Dc p (m + 10 * i) H')
      ⟨[], _, _, _, rfl, l1, rfl, List.nodup_nil, (fun x hx => nomatch hx), Nxt.of s1, (hp.same s1).mono (by omega)⟩ ?_ ?_⟩
    · rintro i σ H2 hi ⟨fs, o4, o5, o6, rfl, hq, hl, hnd, hw, nx, dc⟩
      have hit : i < total := by omega
      refine ⟨by simp, fun p3 H3 s3 n3 l3 => ?_⟩
      refine ⟨p, _, _, rfl, dc.same s3, by omega, by decide, by decide, fun r H4 r0 r1 dc4 e4 => ?_⟩
      have hp3 : p3 ≠ p := dc.ne n3
      have l3' : H4 p3 = some (.lst [.int 1, .int 2, .int 3, .int 8]) := (e4 p3 hp3).trans l3
      have nx4 : Nxt p H2 H4 := (Nxt.of s3).trans (Nxt.of_eq e4)
      obtain ⟨j, rfl⟩ : ∃ j : Nat, r = (j : Int) := ⟨r.toNat, by omega⟩
      have hj : j < 4 := by omega
      obtain ⟨n, hn, hn1, hn8⟩ : ∃ n : Nat, ([V.int 1, V.int 2, V.int 3, V.int 8] : List V)[j]? = some (V.int n) ∧ 1 ≤ n ∧ n ≤ 8 := by
        match j, hj with
        | 0, _ => exact ⟨1, rfl, by decide, by decide⟩
        | 1, _ => exact ⟨2, rfl, by decide, by decide⟩
        | 2, _ => exact ⟨3, rfl, by decide, by decide⟩
        | 3, _ => exact ⟨8, rfl, by decide, by decide⟩
      refine .inl ⟨_, .int n, SqL.of l3', atI_nat hn, ?_⟩
      refine ⟨_, rfl, by omega, by omega, for_range (lo := 0) (n := ((n : Nat) : Int).toNat) (fun t σ H' => ∃ (l : List Nat) (o6 : Option V), σ = [some (.ref p), some (.int (total : Nat)), some (.str abc), some (.ref q), some (.int (0 + i)), some (.str (wT l)), o6] ∧ l.length = t ∧ l.all lowL = true ∧ Nxt p H2 H' ∧ Dc p (m + 10 * i + 1 + t) H')
        ⟨[], _, rfl, rfl, rfl, nx4, dc4.mono (by omega)⟩ ?_ ?_⟩
      · rintro t σ H5 hti ⟨l, o6, rfl, hll, hlow, nx5, dc5⟩
        refine ⟨p, _, _, rfl, dc5, by omega, by decide, by decide, fun r2 H6 r20 r21 dc6 e6 => ?_⟩
        obtain ⟨c, rfl⟩ : ∃ c : Nat, r2 = (c : Int) := ⟨r2.toNat, by omega⟩
        have hc : c < 26 := by omega
        refine ⟨97 + c, by decide +kernel, abc_get hc, ?_⟩
        refine ⟨small_size (by rw [wT_len]; show l.length + 1 ≤ 1000000; omega), ?_⟩
        refine ⟨l ++ [97 + c], some (.int (0 + (t : Int))), ?_, by simp [hll], by rw [List.all_append, hlow]; simp; omega, nx5.trans (Nxt.of_eq e6), dc6.mono (by omega)⟩
        rw [← wT_app]
        rfl
      · rintro σ H5 ⟨l, o6, rfl, hll, hlow, nx5, dc5⟩
        have hW : WordL l := ⟨by omega, by omega, hlow⟩
        have hq5 : H5 q = some (.lst (fs.map V.str)) := nx5.get hqp hq
        refine ⟨fun σ H' => ∃ (l : List Nat) (o6 : Option V), σ = [some (.ref p), some (.int (total : Nat)), some (.str abc), some (.ref q), some (.int (0 + i)), some (.str (wT l)), o6] ∧ WordL l ∧ Nxt p H2 H' ∧ Dc p (m + 10 * i + 10) H', ?_, ?_⟩
        · refine ⟨by simp, fun p6 H6 s6 n6 l6 => ?_⟩
          refine ⟨.list (fs.map .str), .list [], .lst (SqL.of (s6 _ _ hq5)) (dq_strs fs), .lst (SqL.of l6) .nil, ?_, by decide +kernel, ?_⟩
          · unfold SeqAt.shaped
            simp only [PyData.canLay0, strs_lay fs hw, PyData.depth, strs_depth, Bool.and_eq_true, decide_eq_true_eq]
            exact ⟨trivial, by omega⟩
          have nx6 : Nxt p H2 H6 := nx5.trans (Nxt.of s6)
          have dc6 : Dc p (m + 10 * i + 9) H6 := (dc5.same s6).mono (by omega)
          rw [eqv_nil]
          refine ite2 (fun c => ?_) (fun c => ?_)
          · have hne : fs ≠ [] := fun z => by
              subst z
              exact absurd c (by decide)
            refine ⟨p, _, _, rfl, dc6, by omega, by decide, by decide, fun r2 H7 r20 r21 dc7 e7 => ?_⟩
            refine ite2 (fun c2 => ?_) (fun c2 => ?_)
            · have hq7 : H7 q = some (.lst (fs.map V.str)) := (e7 q hqp).trans (s6 _ _ hq5)
              obtain ⟨y, hy⟩ : ∃ y, fs[fs.length - 1]? = some y := ⟨_, List.getElem?_eq_getElem (by have := List.length_pos_iff.mpr hne; omega)⟩
              have hym : y ∈ fs := List.mem_of_getElem? hy
              have hyw := hw y hym
              refine ⟨1, rfl, .inl ⟨_, .str y, SqL.of hq7, ?_, ?_⟩⟩
              · have hpos := List.length_pos_iff.mpr hne
                unfold atI ixN
                rw [if_neg (by decide), List.length_map, if_pos (by omega)]
                show (fs.map V.str)[(-1 + (fs.length : Int)).toNat]? = _
                rw [show (-1 + (fs.length : Int)).toNat = fs.length - 1 by omega, List.getElem?_map, hy]
                rfl
              · have hyl : y.length = y.cps.toList.length := by show y.cps.size = _; simp
                have h8 := hyw.eight
                have h1 := hyw.one
                have hya : y ++ ("a" : Str) = wT (y.cps.toList ++ [97]) := by
                  have e : ("a" : Str) = wT [97] := by decide +kernel
                  rw [e]
                  conv => lhs; rw [wT_eta y]
                  exact wT_app _ _
                refine ⟨small_size (by show y.length + 1 ≤ 1000000; omega), 8, rfl, _, rfl, ?_, ?_⟩
                · rw [hya, wT_len, List.length_append, sizeLine_eq]
                  show y.cps.toList.length + 1 ≤ _
                  omega
                have hcut : cutS (y ++ ("a" : Str)) none (some 8) = wT ((y.cps.toList ++ [97]).take 8) := by
                  rw [hya]
                  have := cut_to (wT (y.cps.toList ++ [97])) 8
                  exact this
                refine ⟨(y.cps.toList ++ [97]).take 8, o6, ?_, ⟨?_, ?_, ?_⟩, nx6.trans (Nxt.of_eq e7), dc7.mono (by omega)⟩
                · rw [← hcut]
                  rfl
                · rw [List.length_take, List.length_append, List.length_singleton]
                  omega
                · rw [List.length_take]
                  omega
                · refine List.all_eq_true.mpr fun c hc => ?_
                  rcases List.mem_append.mp (List.mem_of_mem_take hc) with z | z
                  · exact List.all_eq_true.mp hyw.low c z
                  · rw [List.mem_singleton.mp z]
                    decide
            · exact ⟨l, _, rfl, hW, nx6.trans (Nxt.of_eq e7), dc7.mono (by omega)⟩
          · exact ⟨l, _, rfl, hW, nx6, dc6.mono (by omega)⟩
        · rintro σ H6 ⟨l, o6, rfl, hW, nx6, dc6⟩
          have hq6 : H6 q = some (.lst (fs.map V.str)) := nx6.get hqp hq
          obtain ⟨c0, r, rfl⟩ : ∃ c0 r, l = c0 :: r := by
            match l, hW.one with
            | c0 :: r, _ => exact ⟨c0, r, rfl⟩
          have hlow := hW.low
          rw [List.all_cons, Bool.and_eq_true] at hlow
          obtain ⟨hc0, hr0⟩ := hlow
          have hlen := hW.eight
          rw [List.length_cons] at hlen
          refine ⟨_, rfl, by omega, by omega, for_range (lo := 0) (n := ((total : Nat) : Int).toNat) (fun t σ H' => ∃ (d : Nat) (o6 : Option V), σ = [some (.ref p), some (.int (total : Nat)), some (.str abc), some (.ref q), some (.int (0 + i)), some (.str (wT (d :: r))), o6] ∧ lowL d = true ∧ TryW fs c0 r t d ∧ H' = H6)
            ⟨c0, _, rfl, hc0, TryW.start (lowL_iff.mp hc0), rfl⟩ ?_ ?_⟩
          · rintro t σ H7 hti ⟨d, o6, rfl, hd, ht, rfl⟩
            refine ⟨q, _, rfl, .inl (SqL.of hq6), rfl, flat_strs fs, ?_⟩
            rw [if_neg (by decide), inV_str]
            refine ite2 (fun c => ?_) (fun c => ?_)
            · have hin : wT (d :: r) ∈ fs := of_decide_eq_true c
              have hd' := lowL_iff.mp hd
              obtain ⟨j, hj, rfl⟩ : ∃ j : Nat, j < 26 ∧ d = 97 + j := ⟨d - 97, by omega, by omega⟩
              refine ⟨rfl, 97 + j, ?_, ?_, abc, ⟨#[97 + j]⟩, j, [], rfl, rfl, abc_occ ⟨j, hj⟩, ?_⟩
              · rw [wT_len, sizeLine_eq]
                simp only [List.length_cons]
                omega
              · exact atI_nat (j := 0) (xs := (97 + j) :: r) (v := 97 + j) rfl
              have e3 : onC (97 + j) 1 = 97 + (j + 1) % 26 := by
                unfold onC
                rw [show 97 + j - 97 + 1 = j + 1 by omega]
              have hlw : (wT ((97 + j) :: r)).length ≤ sizeLine := by
                rw [wT_len, sizeLine_eq]
                simp only [List.length_cons]
                omega
              have hm26 : (j + 1) % 26 < 26 := Nat.mod_lt _ (by decide)
              refine ⟨by decide, 97 + (j + 1) % 26, by decide +kernel, abc_get hm26, 1, rfl, _, rfl, hlw, ?_⟩
              have hcut : cutS (wT ((97 + j) :: r)) (some 1) none = wT r := cut_from (wT ((97 + j) :: r)) 1
              rw [hcut]
              refine ⟨small_size (by rw [wT_len]; show 1 + r.length ≤ 1000000; omega), ?_⟩
              refine ⟨onC (97 + j) 1, some (.int (0 + (t : Int))), ?_, lowL_iff.mpr (onC_low _ _), ht.on hin, rfl⟩
              rw [e3, show (97 + (j + 1) % 26) :: r = [97 + (j + 1) % 26] ++ r from rfl, ← wT_app]
              rfl
            · exact ⟨d, _, rfl, hd, ht.free fun z => c (decide_eq_true z), rfl⟩
          · rintro σ H7 ⟨d, o6, rfl, hd, ht, rfl⟩
            have hfree : wT (d :: r) ∉ fs := ht.done (by omega) (by omega)
            have hWd : WordL (d :: r) := ⟨by simp, by simp only [List.length_cons]; omega, by rw [List.all_cons, hd, hr0]; rfl⟩
            refine ⟨_, rfl, by omega, by omega, for_range (lo := 0) (n := ((total : Nat) : Int).toNat) (fun t σ H' => ∃ (o6 : Option V), σ = [some (.ref p), some (.int (total : Nat)), some (.str abc), some (.ref q), some (.int (0 + i)), some (.str (wT (d :: r))), o6] ∧ H' = H7)
              ⟨_, rfl, rfl⟩ ?_ ?_⟩
            · rintro t σ H8 hti ⟨o6, rfl, rfl⟩
              refine ⟨q, _, rfl, .inl (SqL.of hq6), rfl, flat_strs fs, ?_⟩
              rw [if_neg (by decide), inV_str]
              exact ite2 (fun c => absurd (of_decide_eq_true c) hfree) fun c => ⟨_, rfl, rfl⟩
            · rintro σ H8 ⟨o6, rfl, rfl⟩
              refine ⟨.inl ⟨rfl, _, SqL.of hq6⟩, q, _, _, rfl, rfl, hq6, by rw [List.length_map, sizeLine_eq]; omega, ?_⟩
              refine ⟨fs ++ [wT (d :: r)], _, _, _, rfl, by rw [upd_same, List.map_append]; rfl, by rw [List.length_append, hl]; rfl, ?_, ?_, ?_, ?_⟩
              · refine List.nodup_append.mpr ⟨hnd, by simp, fun x hx y hy => ?_⟩
                rw [List.mem_singleton.mp hy]
                intro z
                exact hfree (z ▸ hx)
              · intro x hx
                rcases List.mem_append.mp hx with z | z
                · exact hw x z
                · rw [List.mem_singleton.mp z]
                  exact wordS_of hWd
              · exact (nx.trans nx6).put n1
              · exact (dc6.upd hqp).mono (by omega)
    · rintro σ H2 ⟨fs, o4, o5, o6, rfl, hq, hl, hnd, hw, nx, dc⟩
      exact k fs q H2 (by omega) hnd hw nx (dc.mono (by omega)) n1 hq
end
end K01

set_option Elab.async false
set_option linter.all false
set_option maxRecDepth 100000
set_option maxHeartbeats 4000000
namespace K01
open PySem L2 PySem.KX
abbrev s_law_is_word : Stmt := top 36
theorem sc_law_is_word : FnScope ["thing", "letter"] ["thing"] (defScope s_law_is_word) := ⟨rfl, rfl, rfl, by decide +kernel, rfl, by decide +kernel, by decide +kernel⟩
theorem none_leftG {α : Type} {l : List α} {f : α → Bool} {z : α} : decide ((pas (fun j => !f (l.getD j z)) l.length).length = 0) = l.all f := by
  cases c : l.all f with
  | true =>
    refine decide_eq_true (List.length_eq_zero_iff.mpr (List.filter_eq_nil_iff.mpr fun j hj => ?_))
    have hj' : j < l.length := List.mem_range.mp hj
    have e : l.getD j z = l[j] := by rw [List.getD_eq_getElem?_getD, List.getElem?_eq_getElem hj']; rfl
    rw [e, List.all_eq_true.mp c _ (List.getElem_mem hj')]
    decide
  | false =>
    refine decide_eq_false fun y => ?_
    have h := List.filter_eq_nil_iff.mp (List.length_eq_zero_iff.mp y)
    have : l.all f = true := List.all_eq_true.mpr fun d hd => by
      obtain ⟨j, hj⟩ := List.getElem?_of_mem hd
      have hj' := (List.getElem?_eq_some_iff.mp hj).1
      have h2 := h j (List.mem_range.mpr hj')
      rw [List.getD_eq_getElem?_getD, hj] at h2
      cases q : f d with
      | true => rfl
      | false =>
        have h3 : ¬ (!f d) = true := h2
        rw [q] at h3
        exact absurd rfl h3
    rw [c] at this
    cases this
theorem abc_mem (c : Nat) : decide (c ∈ abc.cps.toList) = lowC c := by
  have e : abc.cps.toList = List.range' 97 26 := by decide +kernel
  rw [e]
  have h : c ∈ List.range' 97 26 ↔ 97 ≤ c ∧ c ≤ 122 := by
    rw [List.mem_range'_1]
    omega
  unfold lowC
  by_cases h1 : 97 ≤ c ∧ c ≤ 122
  · rw [decide_eq_true (h.mpr h1), decide_eq_true h1.1, decide_eq_true h1.2]
    rfl
  · rw [decide_eq_false fun z => h1 (h.mp z)]
    by_cases h2 : 97 ≤ c
    · rw [decide_eq_true h2, decide_eq_false fun z => h1 ⟨h2, z⟩]
      rfl
    · rw [decide_eq_false h2]
      rfl
theorem in_rng {n lo hi : Nat} : (!decide ((lo : Int) ≤ (n : Int) ∧ (n : Int) < (hi : Int))) = !(decide (lo ≤ n) && decide (n < hi)) := by
  congr 1
  by_cases h1 : lo ≤ n <;> by_cases h2 : n < hi
  · rw [decide_eq_true h1, decide_eq_true h2, decide_eq_true ⟨by omega, by omega⟩]; rfl
  · rw [decide_eq_true h1, decide_eq_false h2, decide_eq_false fun z => h2 (by omega)]; rfl
  · rw [decide_eq_false h1, decide_eq_false fun z => h1 (by omega)]; rfl
  · rw [decide_eq_false h1, decide_eq_false fun z => h1 (by omega)]; rfl
section
variable {P : Program} {w : World} {K : PySem.W.Frag} {mg : Str → Option Value} {base : Heap}
theorem ok_is_word {f : Addr} {fd : FuncData} (F : Fun K "_law_is_word" "_law_is_word" s_law_is_word f fd) (T : TxtA mg) (TW : TxtW mg) : FnG P w K mg base CX0 1 f fd ["thing"] (spN K isNameD) := by
  have nd := sc_law_is_word.nd
  refine okG F sc_law_is_word (fun vs H Q E h => ?_) (fun cdv A outer s H vs Q E hr h => ?_)
  · obtain ⟨_, _, rfl, _⟩ := h
    rfl
  · obtain ⟨v, d, rfl, hd, k⟩ := h
    refine ⟨_, (pss_cons (ps_if (PW.pt (pw_or (pt_not (pt_valA (pe_callB call_isiA (by rfl) T.isinstance (by decide +kernel) (pa_cons (av 0) (pa_cons (pe_bltn (v := .ty "str") (u := .type "str") rfl T.str (by decide +kernel) rfl) pa_nil))))) (pw_or1 (pt_cmpA op_notIn_rng (pe_callB call_lenA (by rfl) T.len PySem.boot_len (pa_cons (av 0) pa_nil)) (pe_callTy call_rngS (by rfl) TW.range (by decide +kernel) (pa_cons pe_int (pa_cons pe_int pa_nil))))))) (pss_one (ps_ret pe_bl)) pss_nil)
      (pss_one (ps_ret (pe_cmpA (op_eqQ hr.units64) (pe_lc (own := [("letter", 1)]) (by rfl) nd (pi_str (av 0)) (blkOk_by (N := ["thing", "letter"]) (sc := defScope s_law_is_word) (by decide +kernel)) (fun _ _ _ _ _ => (pg_name (i := 1) nd rfl (Or.inl rfl))) (fun _ _ _ _ _ => (pts_one (PT.up (pt_cmpA op_notIn_sign (av 1) pe_str)))) (fun _ _ _ _ _ => PE.up pe_int)) (pe_lstS pa_nil))))), ?_⟩
    refine ⟨_, _, _, _, _, rfl, .ty _, hd.dq.ty, kit_ty (kit_str d), ?_⟩
    have no : isStrB d = false → isNameD d = false := fun e => by
      cases d <;> first | rfl | cases e
    cases hb : isStrB d with
    | false =>
      rw [no hb] at k
      refine (iteT (k _ (Same.refl _)) : if true = true then _ else _)
    | true =>
      refine iteF ?_
      cases hd.dq with
      | str x =>
        have hs : x.length ≤ 100000 := of_decide_eq_true hd.sm
        have hxl : x.cps.toList.length = x.length := by show _ = x.cps.size; simp
        refine ⟨small_size (by omega), 1, 9, rfl, fun r H1 s1 n1 l1 => ?_⟩
        refine ⟨_, _, _, _, rfl, rfl, l1, ?_⟩
        have e0 := in_rng (n := x.length) (lo := 1) (hi := 9)
        have e : isNameD (.str x) = ((decide (1 ≤ x.length) && decide (x.length ≤ 8)) && x.cps.toList.all lowC) := rfl
        have e8 : decide (x.length < 9) = decide (x.length ≤ 8) := by
          by_cases h : x.length ≤ 8
          · rw [decide_eq_true h, decide_eq_true (by omega)]
          · rw [decide_eq_false h, decide_eq_false (by omega)]
        rw [e8] at e0
        rw [e] at k
        cases c : (decide (1 ≤ x.length) && decide (x.length ≤ 8)) with
        | false =>
          rw [c] at e0 k
          show (if (!decide ((1 : Int) ≤ (x.length : Int) ∧ (x.length : Int) < 9)) = true then _ else _)
          have e0' : (!decide ((1 : Int) ≤ (x.length : Int) ∧ (x.length : Int) < 9)) = true := e0
          rw [e0']
          exact iteT (k _ s1)
        | true =>
          rw [c] at e0 k
          show (if (!decide ((1 : Int) ≤ (x.length : Int) ∧ (x.length : Int) < 9)) = true then _ else _)
          have e0' : (!decide ((1 : Int) ≤ (x.length : Int) ∧ (x.length : Int) < 9)) = false := e0
          rw [e0']
          refine iteF ⟨x, rfl, fun D hD => ?_⟩
          refine lc_itF walk_str (fun j => !lowC (x.cps.toList.getD j 0)) (fun j u _ => u = .int 1) (fun _ _ _ _ _ h => h) hD (by have : x.cps.size = x.length := rfl; omega) (fun _ _ => True.intro) (fun j y H' H2 hj s5 hD5 ⟨e2, c, hc, ey⟩ => ?_) gName_mono (fun H' acc s6 hl la hacc => ?_)
          · subst e2
            subst ey
            refine ⟨rfl, c, abc, rfl, rfl, ?_, Same.refl _, fun _ => ⟨Same.refl _, rfl⟩⟩
            rw [abc_mem, List.getD_eq_getElem?_getD, Array.getElem?_toList, hc]
            rfl
          · have ea := all_ones fun i v hv => by
              obtain ⟨_, _, r⟩ := hacc i v hv
              exact r
            refine ⟨by simp, fun q H2 s7 n7 l7 => ?_⟩
            have e1 : PyData.eqv (.list (List.replicate acc.length (PyData.int 1))) (.list []) = x.cps.toList.all lowC := by
              rw [ones_eqv, la]
              have := none_leftG (l := x.cps.toList) (f := lowC) (z := 0)
              rw [hxl] at this
              exact this
            refine ⟨.list (List.replicate acc.length (.int 1)), .list [], .lst (SqL.of (by rw [← ea]; exact s7 _ _ hl)) (dq_ones _), .lst (SqL.of l7) .nil, ones_ok _, by decide +kernel, ?_⟩
            rw [e1]
            exact k _ ((s1.trans s6).trans s7)
      | _ => cases hb
end
end K01

set_option Elab.async false
set_option linter.all false
set_option maxRecDepth 100000
set_option maxHeartbeats 4000000
namespace K01
open PySem L2 PySem.KX
abbrev s_law_is_net : Stmt := top 38
theorem sc_law_is_net : FnScope ["thing", "places", "steps", "step", "part", "names"] ["thing"] (defScope s_law_is_net) := ⟨rfl, rfl, rfl, by decide +kernel, rfl, by decide +kernel, by decide +kernel⟩
theorem ints_lay : ∀ ns : List Int, PyData.canLayAll0 (ns.map PyData.int) = true
  | [] => by simp [PyData.canLayAll0]
  | n :: r => by simp only [List.map_cons, PyData.canLayAll0, PyData.canLay0, ints_lay r, Bool.and_self]
theorem ints_depth : ∀ ns : List Int, PyData.depthAll (ns.map PyData.int) = 0
  | [] => by simp [PyData.depthAll]
  | n :: r => by simp [PyData.depthAll, PyData.depth, ints_depth r]
theorem ints_shaped (ns : List Int) : SeqAt.shaped (.list (ns.map PyData.int)) = true := by
  unfold SeqAt.shaped
  simp only [PyData.canLay0, ints_lay, PyData.depth, ints_depth, Bool.and_eq_true, decide_eq_true_eq]
  exact ⟨trivial, by omega⟩
theorem strs_shaped {xs : List Str} (h : ∀ x ∈ xs, WordS x) : SeqAt.shaped (.list (xs.map PyData.str)) = true := by
  unfold SeqAt.shaped
  simp only [PyData.canLay0, strs_lay xs h, PyData.depth, strs_depth, Bool.and_eq_true, decide_eq_true_eq]
  exact ⟨trivial, by omega⟩
theorem name_word {x : Str} (h : isNameD (.str x) = true) : WordS x := by
  have h' : ((decide (1 ≤ x.length) && decide (x.length ≤ 8)) && x.cps.toList.all lowC) = true := h
  simp only [Bool.and_eq_true, decide_eq_true_eq] at h'
  have hxl : x.cps.toList.length = x.length := by show _ = x.cps.size; simp
  exact ⟨by omega, by omega, h'.2⟩
/-- a part that is not () and holds places, ascending -/
def partD (n : Int) (d : PyData) : Bool := !isNilD d && placesD n d
theorem step_parts {n : Int} {a b c : PyData} : stepD n (.tuple [a, b, c]) = (isNameD a && (partD n b && partD n c)) := by
  show (isNameD a && (!isNilD b && (!isNilD c && (placesD n b && placesD n c)))) = _
  unfold partD
  cases isNameD a <;> cases isNilD b <;> cases isNilD c <;> cases placesD n b <;> cases placesD n c <;> rfl
theorem all_ints {n : Int} {ds : List PyData} (h : allIn n (.tuple ds) = true) : ∃ ns : List Int, ds = ns.map PyData.int := by
  have h' : ds.all (intIn 0 (n - 1)) = true := h
  refine ⟨ds.map intOf, ints_of (List.all_eq_true.mpr fun d hd => ?_)⟩
  have := List.all_eq_true.mp h' d hd
  cases d <;> first | rfl | cases this
theorem part_all {n : Int} {d : PyData} (h : partD n d = true) : allIn n d = true ∧ isNilD d = false := by
  unfold partD at h
  rw [Bool.and_eq_true, Bool.not_eq_true'] at h
  refine ⟨?_, h.1⟩
  cases d with
  | tuple ds =>
    have := h.2
    have h2 : (ds.all (intIn 0 (n - 1)) && ascD ds) = true := this
    exact (Bool.and_eq_true_iff.mp h2).1
  | _ => cases h.2
def nameOf : PyData → Str
  | .tuple (.str x :: _) => x
  | _ => ⟨#[]⟩
section
variable {P : Program} {w : World} {K : PySem.W.Frag} {mg : Str → Option Value} {base : Heap}
def spIsNet (K : PySem.W.Frag) : Sp := fun vs H Q _ => ∃ (v : V) (d : PyData), vs = [v] ∧ Wd K H v d ∧ sm60 d = true ∧ ∀ H', Same H H' → Q (.bl (netD d)) H'
theorem ok_law_net {f : Addr} {fd : FuncData} (F : Fun K "_law_is_net" "_law_is_net" s_law_is_net f fd) (T : TxtA mg) (S : TxtS mg) (TX : TxtX mg) (O_law_is_number : Own P w K mg base CX0 "_law_is_number" 1 ["thing", "low", "high"] (spWithin K))
    (O_law_is_word : Own P w K mg base CX0 "_law_is_word" 1 ["thing"] (spN K isNameD)) (O_law_are_places : Own P w K mg base CX0 "_law_are_places" 2 ["thing", "places"] (spAllIn K)) : FnG P w K mg base CX0 3 f fd ["thing"] (spIsNet K) := by
  have nd := sc_law_is_net.nd
  refine okG F sc_law_is_net (fun vs H Q E h => ?_) (fun cdv A outer s H vs Q E hr h => ?_)
  · obtain ⟨_, _, rfl, _⟩ := h
    rfl
  · obtain ⟨v, d, rfl, hd, h60, k⟩ := h
    refine ⟨_, (pss_cons (ps_if (PW.pt (pw_or (pt_not (pt_valA (pe_callB call_isiA (by rfl) T.isinstance (by decide +kernel) (pa_cons (av 0) (pa_cons (pe_bltn (v := .ty "tuple") (u := .type "tuple") rfl T.tuple (by decide +kernel) rfl) pa_nil))))) (pw_or (pt_cmpA (op_neA hr.units64) (pe_callB call_lenA (by rfl) T.len PySem.boot_len (pa_cons (av 0) pa_nil)) pe_int) (pw_or1 (pt_not (pt_valA (pe_own O_law_is_number hr (pa_cons (pe_ixA (av 0) pe_int) (pa_cons pe_int (pa_cons pe_int pa_nil))) (by decide)))))))) (pss_one (ps_ret pe_bl)) pss_nil)
      (pss_cons (ps_asg (av 0) (pg_tup rfl (pgs_cons (pg_name (i := 1) nd rfl (Or.inl rfl)) (pgs_cons (pg_name (i := 2) nd rfl (Or.inl rfl)) pgs_nil))))
      (pss_cons (ps_if (PW.pt (pw_or (pt_not (pt_valA (pe_callB call_isiA (by rfl) T.isinstance (by decide +kernel) (pa_cons (av 2) (pa_cons (pe_bltn (v := .ty "tuple") (u := .type "tuple") rfl T.tuple (by decide +kernel) rfl) pa_nil))))) (pw_or1 (pt_cmpA op_notIn_rng (pe_callB call_lenA (by rfl) T.len PySem.boot_len (pa_cons (av 2) pa_nil)) (pe_callTy call_rngS (by rfl) TX.range (by decide +kernel) (pa_cons pe_int (pa_cons pe_int pa_nil))))))) (pss_one (ps_ret pe_bl)) pss_nil)
      (pss_cons (ps_for PassesOwn.never rfl (pi_tup (av 2)) (pg_name (i := 3) nd rfl (Or.inl rfl)) (pss_cons (ps_if (PW.pt (pw_or (pt_not (pt_valA (pe_callB call_isiA (by rfl) T.isinstance (by decide +kernel) (pa_cons (av 3) (pa_cons (pe_bltn (v := .ty "tuple") (u := .type "tuple") rfl T.tuple (by decide +kernel) rfl) pa_nil))))) (pw_or (pt_cmpA (op_neA hr.units64) (pe_callB call_lenA (by rfl) T.len PySem.boot_len (pa_cons (av 3) pa_nil)) pe_int) (pw_or1 (pt_not (pt_valA (pe_own O_law_is_word hr (pa_cons (pe_ixA (av 3) pe_int) pa_nil) (by decide)))))))) (pss_one (ps_ret pe_bl)) pss_nil)
      (pss_one (ps_for PassesOwn.never rfl (pi_tup (pe_slice sl_tupS (av 3) (po_some pe_int) po_none)) (pg_name (i := 4) nd rfl (Or.inl rfl)) (pss_one (ps_if (PW.pt (pw_or (pt_not (pt_valA (pe_own O_law_are_places hr (pa_cons (av 4) (pa_cons (av 1) pa_nil)) (by decide)))) (pw_or (pt_cmpA (op_eqNil hr.units64) (av 4) (pe_tupS pa_nil)) (pw_or1 (pt_cmpA (op_neQ hr.units64) (pe_callTy call_listA (by rfl) TX.list (by decide +kernel) (pa_cons (av 4) pa_nil)) (pe_callB (call_sortTI rfl) (by rfl) S.sorted (by decide +kernel) (pa_cons (pe_callTy (call_setTI rfl) (by rfl) S.set (by decide +kernel) (pa_cons (av 4) pa_nil)) pa_nil))))))) (pss_one (ps_ret pe_bl)) pss_nil))))))
      (pss_cons (ps_setLc (i := 5) (own := [("step", 3)]) (by rfl) nd rfl rfl (sw_true rfl rfl rfl (by decide +kernel)) (pi_tup (av 2)) (blkOk_by (N := ["thing", "places", "steps", "step", "part", "names"]) (sc := defScope s_law_is_net) (by decide +kernel)) (fun _ _ _ _ _ => (pg_name (i := 3) nd rfl (Or.inl rfl))) (fun _ _ _ _ _ => pts_nil) (fun _ _ _ _ _ => PE.up (show PE _ _ (tOp (rIxA K) (aVar 3) (tC (.int 0))) from (pe_ixA (av 3) pe_int))))
      (pss_one (ps_ret (pe_cmpA (op_eqQ hr.units64) (av 5) (pe_callB (call_sortLS rfl) (by rfl) S.sorted (by decide +kernel) (pa_cons (pe_callTy (call_setLS rfl) (by rfl) S.set (by decide +kernel) (pa_cons (av 5) pa_nil)) pa_nil)))))))))), ?_⟩
    refine ⟨_, _, _, _, _, rfl, .ty _, hd.dq.ty, kit_ty (kit_tuple d), ?_⟩
    have no : isTupB d = false → netD d = false := fun e => by
      cases d <;> first | rfl | cases e
    cases hb : isTupB d with
    | false =>
      rw [no hb] at k
      refine (iteT (iteT (k _ (Same.refl _))) : if true = true then _ else _)
    | true =>
      refine iteF ?_
      obtain ⟨hdq, hsm⟩ := hd
      cases hdq with
      | @tup a xs ds hq ha =>
        have hlen := ha.length
        refine .inr ⟨xs, hq, ?_⟩
        by_cases h2 : ds.length = 2
        · have c : (!decide ((xs.length : Int) = 2)) = false := by rw [decide_eq_true (by omega)]; rfl
          show (if (!decide ((xs.length : Int) = 2)) = true then _ else _)
          rw [c]
          refine iteF ?_
          obtain ⟨da, db, rfl⟩ := len2 h2
          obtain ⟨x, y, rfl, hx, hy⟩ := dq2 ha
          obtain ⟨m1, m2⟩ := sm2 hsm
          refine .inr ⟨_, x, hq, rfl, ?_⟩
          refine ⟨x, da, 2, 30, rfl, ⟨hx, m1⟩, ?_⟩
          cases c1 : intIn 2 30 da with
          | false =>
            have e : netD (.tuple [da, db]) = false := by
              cases da with
              | int n =>
                cases db with
                | tuple es =>
                  show ((decide (2 ≤ n) && decide (n ≤ 30)) && _) = false
                  rw [show (decide (2 ≤ n) && decide (n ≤ 30)) = false from c1]
                  rfl
                | _ => rfl
              | _ => rfl
            rw [e] at k
            refine (iteT (k _ (Same.refl _)) : if true = true then _ else _)
          | true =>
            refine iteF ?_
            refine ⟨a, _, rfl, hq, rfl, _, _, rfl, _, _, rfl, rfl, ?_⟩
            cases hx with
            | int n =>
              have c1' : (decide (2 ≤ n) && decide (n ≤ 30)) = true := c1
              refine ⟨_, _, _, _, _, rfl, .ty _, hy.ty, kit_ty (kit_tuple db), ?_⟩
              cases hb2 : isTupB db with
              | false =>
                have e : netD (.tuple [.int n, db]) = false := by cases db <;> first | rfl | cases hb2
                rw [e] at k
                refine (iteT (iteT (k _ (Same.refl _))) : if true = true then _ else _)
              | true =>
                refine iteF ?_
                cases hy with
                | @tup b ys es hyq hya =>
                  have hlen2 := hya.length
                  obtain ⟨hn, hs2⟩ := smQ_tup m2
                  have h60e : ∀ e ∈ es, sm60 e = true := by
                    have := (sm60_tup h60).2 (.tuple es) (by simp)
                    exact (sm60_tup this).2
                  have en : netD (.tuple [.int n, .tuple es]) = ((decide (2 ≤ n) && decide (n ≤ 30)) && ((decide (1 ≤ es.length) && decide (es.length ≤ 40)) && (es.all (stepD n) && ascD (es.map firstD)))) := rfl
                  rw [en, c1', Bool.true_and] at k
                  refine .inr ⟨ys, hyq, 1, 41, rfl, fun r H1 s1 n1 l1 => ?_⟩
                  refine ⟨_, _, _, _, rfl, rfl, l1, ?_⟩
                  have e0 := in_rng (n := ys.length) (lo := 1) (hi := 41)
                  have e8 : decide (ys.length < 41) = decide (es.length ≤ 40) := by
                    by_cases h : es.length ≤ 40
                    · rw [decide_eq_true h, decide_eq_true (by omega)]
                    · rw [decide_eq_false h, decide_eq_false (by omega)]
                  rw [e8, hlen2] at e0
                  show (if (!decide ((1 : Int) ≤ (ys.length : Int) ∧ (ys.length : Int) < 41)) = true then _ else _)
                  rw [hlen2]
                  cases c2 : (decide (1 ≤ es.length) && decide (es.length ≤ 40)) with
                  | false =>
                    rw [c2] at e0 k
                    have e0' : (!decide ((1 : Int) ≤ (es.length : Int) ∧ (es.length : Int) < 41)) = true := e0
                    rw [e0']
                    exact iteT (k _ s1)
                  | true =>
                    rw [c2, Bool.true_and] at k
                    rw [c2] at e0
                    have e0' : (!decide ((1 : Int) ≤ (es.length : Int) ∧ (es.length : Int) < 41)) = false := e0
                    rw [e0']
                    have hl40 : es.length ≤ 40 := by
                      rw [Bool.and_eq_true, decide_eq_true_eq, decide_eq_true_eq] at c2
                      exact c2.2
                    have hfail : ∀ (j : Nat) (d : PyData), es[j]? = some d → stepD n d = false → ∀ H', Same H H' → Q (.bl false) H' := fun j d hj hs H' s => by
                      have e : es.all (stepD n) = false := by
                        cases c : es.all (stepD n) with
                        | false => rfl
                        | true =>
                          have := List.all_eq_true.mp c d (List.mem_of_getElem? hj)
                          rw [hs] at this
                          cases this
                      rw [e] at k
                      exact k H' s
                    refine iteF ⟨b, rfl, ⟨_, s1.sqT hyq⟩, ?_⟩
                    refine for_it (walk_tup (xs := ys)) (fun i σ H' => (∃ o3 o4, σ = [some (.ref a), some (.int n), some (.ref b), o3, o4, none]) ∧ Same H H' ∧ ∀ (j : Nat) (d : PyData), j < i → es[j]? = some d → stepD n d = true) ⟨⟨_, _, rfl⟩, s1, fun j _ hj => absurd hj (Nat.not_lt_zero _)⟩ (fun i σ H' _ ⟨_, s, _⟩ => s.sqT hyq) ?_ ?_
                    · rintro i z σ H2 H3 hi ⟨⟨o3, o4, rfl⟩, s2, hyes⟩ ⟨rfl, hz⟩
                      obtain ⟨d, h1, h2⟩ := hya.get hz
                      have hd2 := Dq.same s2 _ _ h2
                      have hdm : d ∈ es := List.mem_of_getElem? h1
                      have m60 := h60e d hdm
                      have msm := smQ_mem hs2 h1
                      refine ⟨_, _, _, _, _, rfl, .ty _, hd2.ty, kit_ty (kit_tuple d), ?_⟩
                      cases hb3 : isTupB d with
                      | false =>
                        have e : stepD n d = false := by cases d <;> first | rfl | cases hb3
                        refine (iteT (iteT (hfail i d h1 e _ s2)) : if true = true then _ else _)
                      | true =>
                        refine iteF ?_
                        cases hd2 with
                        | @tup q zs gs hzq hza =>
                          have hlen3 := hza.length
                          refine .inr ⟨zs, hzq, ?_⟩
                          by_cases h3 : gs.length = 3
                          · have c : (!decide ((zs.length : Int) = 3)) = false := by rw [decide_eq_true (by omega)]; rfl
                            show (if (!decide ((zs.length : Int) = 3)) = true then _ else _)
                            rw [c]
                            obtain ⟨ga, gb, gc, rfl⟩ := len3 h3
                            obtain ⟨za, zb, zc, rfl, hga, hgb, hgc⟩ := dq3 hza
                            obtain ⟨w1, w2, w3⟩ := sm3 msm
                            have p60 := (sm60_tup m60).2
                            refine iteF (.inr ⟨_, za, hzq, rfl, ?_⟩)
                            refine ⟨za, ga, rfl, ⟨hga, w1⟩, fun H4 s4 => ?_⟩
                            cases c3 : isNameD ga with
                            | false =>
                              have e : stepD n (.tuple [ga, gb, gc]) = false := by rw [step_parts, c3]; rfl
                              refine (iteT (hfail i _ h1 e _ (s2.trans s4)) : if true = true then _ else _)
                            | true =>
                              refine iteF ⟨1, rfl, q, _, rfl, s4.sqT hzq, fun r5 H5 s5 hr5 => ?_⟩
                              rw [cut_tail] at hr5
                              have hr5' : SqT K H5 r5 [zb, zc] := hr5
                              have s25 := (s2.trans s4).trans s5
                              refine ⟨r5, rfl, ⟨_, hr5'⟩, ?_⟩
                              refine for_it (walk_tup (xs := [zb, zc])) (fun t σ H' => (∃ o4, σ = [some (.ref a), some (.int n), some (.ref b), some (.ref q), o4, none]) ∧ Same H5 H' ∧ ∀ (j : Nat) (d : PyData), j < t → [gb, gc][j]? = some d → partD n d = true) ⟨⟨_, rfl⟩, Same.refl _, fun j _ hj => absurd hj (Nat.not_lt_zero _)⟩ (fun i σ H' _ ⟨_, s, _⟩ => s.sqT hr5') ?_ ?_
                              · rintro t u σ H6 H7 ht ⟨⟨o4, rfl⟩, s6, hyes2⟩ ⟨rfl, hu⟩
                                have s26 := s25.trans s6
                                obtain ⟨g, hg, hgd, hgw, hg6⟩ : ∃ g, [gb, gc][t]? = some g ∧ Dq K H7 u g ∧ smQ g = true ∧ sm60 g = true := by
                                  have s27 := (s4.trans s5).trans s6
                                  match t, hu with
                                  | 0, hu => cases hu; exact ⟨gb, rfl, Dq.same s27 _ _ hgb, w2, p60 _ (by simp)⟩
                                  | 1, hu => cases hu; exact ⟨gc, rfl, Dq.same s27 _ _ hgc, w3, p60 _ (by simp)⟩
                                have pfail : partD n g = false → ∀ H', Same H H' → Q (.bl false) H' := fun e => by
                                  refine hfail i _ h1 ?_
                                  rw [step_parts]
                                  match t, hg with
                                  | 0, hg =>
                                    cases hg
                                    rw [e, Bool.false_and, Bool.and_false]
                                  | 1, hg =>
                                    cases hg
                                    rw [e, Bool.and_false, Bool.and_false]
                                refine ⟨u, g, n, rfl, ⟨hgd, hgw⟩, fun H8 s8 => ?_⟩
                                cases c4 : allIn n g with
                                | false =>
                                  have e : partD n g = false := by
                                    cases c : partD n g with
                                    | false => rfl
                                    | true =>
                                      rw [(part_all c).1] at c4
                                      cases c4
                                  refine (iteT (iteT (pfail e _ (s26.trans s8))) : if true = true then _ else _)
                                | true =>
                                  refine iteF ⟨by simp, fun r9 H9 s9 n9 l9 => ?_⟩
                                  have hgd9 := Dq.same (s8.trans s9) _ _ hgd
                                  refine ⟨r9, g, rfl, SqT.of l9, hgd9, ?_⟩
                                  cases c5 : isNilD g with
                                  | true =>
                                    have e : partD n g = false := by unfold partD; rw [c5]; rfl
                                    refine (iteT (iteT (pfail e _ ((s26.trans s8).trans s9))) : if true = true then _ else _)
                                  | false =>
                                    refine iteF ?_
                                    cases hgd9 with
                                    | @tup ug us gs2 hug hua =>
                                      obtain ⟨ns, rfl⟩ := all_ints c4
                                      have hus := dq_ints hua
                                      subst hus
                                      have hns : ns.length ≤ 60 := by
                                        have := (sm60_tup hg6).1
                                        simpa using this
                                      refine ⟨_, .inr hug, fun L nL => ?_⟩
                                      have s10 : Same H9 (upd H9 L (.lst (ns.map V.int))) := (Same.refl _).new nL
                                      have l10 : upd H9 L (.lst (ns.map V.int)) L = some (.lst (ns.map V.int)) := upd_same
                                      generalize upd H9 L (.lst (ns.map V.int)) = H10 at s10 l10
                                      refine ⟨ug, ns, rfl, s10.sqT hug, hns, fun p11 c11 H11 s11 n11 e11 hc11 => ?_⟩
                                      refine ⟨p11, _, c11, rfl, e11, by omega, fun ms p12 H12 asc mem hlen12 s12 n12 l12 => ?_⟩
                                      have td : Tidy ns ms := ⟨asc, fun k => (mem k).trans decide_eq_true_iff⟩
                                      refine ⟨.list (ns.map .int), .list (ms.map .int), .lst (SqL.of (s12 _ _ (s11 _ _ l10))) ints_dq, .lst (SqL.of l12) ints_dq, ints_shaped _, ints_shaped _, ?_⟩
                                      rw [eqv_tidy td]
                                      have ep : partD n (.tuple (ns.map PyData.int)) = ascD (ns.map PyData.int) := by
                                        unfold partD
                                        rw [c5]
                                        show (!false && ((ns.map PyData.int).all (intIn 0 (n - 1)) && ascD (ns.map PyData.int))) = _
                                        rw [show (ns.map PyData.int).all (intIn 0 (n - 1)) = true from c4]
                                        rfl
                                      have s212 := ((((s26.trans s8).trans s9).trans s10).trans s11).trans s12
                                      cases c7 : ascD (ns.map PyData.int) with
                                      | false => refine (iteT (pfail (by rw [ep, c7]) _ s212) : if true = true then _ else _)
                                      | true =>
                                        refine iteF ⟨⟨_, rfl⟩, ((((s6.trans s8).trans s9).trans s10).trans s11).trans s12, fun j d hj hj2 => ?_⟩
                                        by_cases e : j = t
                                        · subst e
                                          rw [hg] at hj2
                                          cases hj2
                                          rw [ep, c7]
                                        · exact hyes2 j d (by omega) hj2
                                    | _ => cases c4
                              · rintro σ H6 ⟨⟨o4, rfl⟩, s6, hyes2⟩
                                refine ⟨⟨_, _, rfl⟩, s25.trans s6, fun j d hj hj2 => ?_⟩
                                by_cases e : j = i
                                · subst e
                                  rw [h1] at hj2
                                  cases hj2
                                  rw [step_parts, c3, hyes2 0 gb (show 0 < 2 by decide) rfl, hyes2 1 gc (show 1 < 2 by decide) rfl]
                                  rfl
                                · exact hyes j d (by omega) hj2
                          · have c : (!decide ((zs.length : Int) = 3)) = true := by rw [decide_eq_false (by omega)]; rfl
                            show (if (!decide ((zs.length : Int) = 3)) = true then _ else _)
                            rw [c]
                            exact iteT (iteT (hfail i _ h1 (step3 h3) _ s2))
                        | _ => cases hb3
                    · rintro σ H2 ⟨⟨o3, o4, rfl⟩, s2, hyes⟩
                      have c6 : es.all (stepD n) = true := List.all_eq_true.mpr fun d hd => by
                        obtain ⟨j, hj⟩ := List.getElem?_of_mem hd
                        have hj' := (List.getElem?_eq_some_iff.mp hj).1
                        exact hyes j d (by omega) hj
                      rw [c6, Bool.true_and] at k
                      have hst : ∀ d ∈ es, ∃ x b c, d = .tuple [.str x, b, c] ∧ isNameD (.str x) = true := fun d hd => by
                        have hs := List.all_eq_true.mp c6 d hd
                        obtain ⟨x, b, c, rfl⟩ := step_is hs
                        rw [step_parts] at hs
                        exact ⟨x, b, c, rfl, (Bool.and_eq_true_iff.mp hs).1⟩
                      obtain ⟨xs, hxs, hxw⟩ : ∃ xs : List Str, es.map firstD = xs.map PyData.str ∧ ∀ x ∈ xs, WordS x := by
                        refine ⟨es.map nameOf, ?_, fun x hx => ?_⟩
                        · rw [List.map_map]
                          refine List.map_congr_left fun d hd => ?_
                          obtain ⟨x, b, c, rfl, _⟩ := hst d hd
                          rfl
                        · obtain ⟨d, hd, rfl⟩ := List.mem_map.mp hx
                          obtain ⟨x, b, c, rfl, hn⟩ := hst d hd
                          exact name_word hn
                      have hxl : xs.length = es.length := by
                        have := congrArg List.length hxs
                        simpa using this.symm
                      refine ⟨b, rfl, ⟨_, s2.sqT hyq⟩, fun D hD => ?_⟩
                      refine lc_itS (walk_tup (xs := ys)) (fun j u _ => ∃ x, xs[j]? = some x ∧ u = .str x) (fun _ _ _ _ _ h => h) hD (by omega) (fun H' s7 => (s2.trans s7).sqT hyq) (fun j z H' H3 hj s7 hD7 ⟨e2, hz⟩ => ?_) gName_mono (fun H3 acc2 s8 hl2 la2 hacc2 => ?_)
                      · subst e2
                        obtain ⟨d, h1, h2⟩ := hya.get hz
                        obtain ⟨x, bb, cc, rfl, _⟩ := hst d (List.mem_of_getElem? h1)
                        have h2' := Dq.same (s2.trans s7) _ _ h2
                        cases h2' with
                        | @tup q zs _ hzq hza =>
                          obtain ⟨z1, z2, z3, rfl, hz1, _, _⟩ := dq3 hza
                          cases hz1
                          refine ⟨rfl, .inr ⟨_, .str x, hzq, rfl, Same.refl _, x, ?_, rfl⟩⟩
                          have e1 : (es.map firstD)[j]? = some (.str x) := by rw [List.getElem?_map, h1]; rfl
                          rw [hxs, List.getElem?_map] at e1
                          cases e3 : xs[j]? with
                          | none => rw [e3] at e1; cases e1
                          | some y =>
                            rw [e3] at e1
                            cases e1
                            rfl
                      · have ea : acc2 = xs.map V.str := by
                          refine List.ext_getElem? fun j => ?_
                          by_cases hj : j < acc2.length
                          · obtain ⟨x, h1, h2⟩ := hacc2 j _ (List.getElem?_eq_getElem hj)
                            rw [List.getElem?_eq_getElem hj, h2, List.getElem?_map, h1]
                            rfl
                          · rw [List.getElem?_eq_none (by omega), List.getElem?_eq_none (by simp; omega)]
                        subst ea
                        refine ⟨D, xs, rfl, SqL.of hl2, by omega, fun p9 c9 H9 s9 n9 e9 hc9 => ?_⟩
                        refine ⟨p9, _, c9, rfl, e9, by omega, fun zs p10 H10 nd10 srt10 mem10 len10 s10 n10 l10 => ?_⟩
                        refine ⟨.list (xs.map .str), .list (zs.map .str), .lst (SqL.of (s10 _ _ (s9 _ _ hl2))) (dq_strs _), .lst (SqL.of l10) (dq_strs _), strs_shaped hxw, ?_, ?_⟩
                        · exact strs_shaped fun x hx => hxw x (of_decide_eq_true ((mem10 x).mp hx))
                        · rw [eqv_sorted srt10 nd10 fun k => (mem10 k).trans decide_eq_true_iff, ← hxs]
                          exact k _ (((s2.trans s8).trans s9).trans s10)
                | _ => cases hb2
            | _ => cases c1
        · have c : (!decide ((xs.length : Int) = 2)) = true := by rw [decide_eq_false (by omega)]; rfl
          show (if (!decide ((xs.length : Int) = 2)) = true then _ else _)
          rw [c]
          rw [net2 h2] at k
          exact iteT (iteT (k _ (Same.refl _)))
      | _ => cases hb
end
end K01

set_option Elab.async false
set_option linter.all false
set_option maxRecDepth 100000
set_option maxHeartbeats 4000000
namespace K01
open PySem L2 PySem.KX StX
open PySem.W (AllAlike Sortable dataLe EachIs alike alikeAll dataLt)
/-! rows of nets -/
abbrev RowN := Str × List Int × List Int
def rowD (r : RowN) : PyData := .tuple [.str r.1, tupI r.2.1, tupI r.2.2]
def netOf (n : Int) (rows : List RowN) : PyData := .tuple [.int n, .tuple (rows.map rowD)]
abbrev ltR (a b : RowN) : Prop := ltT a.1 b.1
theorem ltR_irr (a : RowN) : ¬ ltR a a := ltT_irr _
theorem ltR_tr (a b c : RowN) (h : ltR a b) (k : ltR b c) : ltR a c := ltT_tr _ _ _ h k
theorem dataLt_rows {a b : RowN} (h : a.1 ≠ b.1) : dataLt (rowD a) (rowD b) = decide (ltT a.1 b.1) := by
  show dataLt (.tuple _) (.tuple _) = _
  have hal : alike (PyData.str a.1) (.str b.1) = true := by simp [alike]
  rw [PySem.W.dataLt_tuple, PySem.W.dataLt_cons hal, if_neg (by show ¬ (a.1 == b.1) = true; simpa using h)]
  have e := congrFun (congrFun (PySem.W.dataLe_str (β := Str) id) b.1) a.1
  rw [PySem.W.dataLe_eq] at e
  have e' : (!dataLt (.str a.1) (.str b.1)) = decide (b.1.cps.toList ≤ a.1.cps.toList) := e
  have e2 : decide (b.1.cps.toList ≤ a.1.cps.toList) = !decide (ltT a.1 b.1) := by
    by_cases c : ltT a.1 b.1
    · rw [decide_eq_true c, decide_eq_false (fun z => z c)]
      rfl
    · rw [decide_eq_false c, decide_eq_true (show b.1.cps.toList ≤ a.1.cps.toList from c)]
      rfl
  rw [e2] at e'
  simpa using e'
def leR (a b : RowN) : Bool := !decide (ltT b.1 a.1)
theorem leR_eq {raw : List RowN} (nd : (raw.map (·.1)).Nodup) : ∀ a ∈ raw, ∀ b ∈ raw, leR a b = dataLe false id (rowD a) (rowD b) := fun a ha b hb => by
  rw [PySem.W.dataLe_eq]
  show _ = !dataLt (rowD b) (rowD a)
  by_cases e : a.1 = b.1
  · have : a = b := by
      have inj : ∀ (l : List RowN), (l.map (·.1)).Nodup → a ∈ l → b ∈ l → a = b := by
        intro l
        induction l with
        | nil => intro _ h; exact nomatch h
        | cons x r ih =>
          intro n h1 h2
          rw [List.map_cons] at n
          obtain ⟨n1, n2⟩ := List.nodup_cons.mp n
          rcases List.mem_cons.mp h1 with z | z <;> rcases List.mem_cons.mp h2 with y | y
          · rw [z, y]
          · exact absurd (List.mem_map.mpr ⟨b, y, by rw [← e, z]⟩) n1
          · exact absurd (List.mem_map.mpr ⟨a, z, by rw [e, y]⟩) n1
          · exact ih n2 z y
      exact inj raw nd ha hb
    subst this
    rw [PySem.W.dataLt_self]
    unfold leR
    rw [decide_eq_false (ltT_irr _)]
  · rw [dataLt_rows (Ne.symm e)]
    rfl
/-- rows with distinct names, sorted -/
theorem sort_rows {raw : List RowN} (nd : (raw.map (·.1)).Nodup) : ∃ rows : List RowN, rows.Perm raw ∧ rows.Pairwise ltR ∧ (raw.map rowD).mergeSort (dataLe false id) = rows.map rowD := by
  have e1 := List.map_mergeSort (r := leR) (s := dataLe false id) (f := rowD) (l := raw) (leR_eq nd)
  refine ⟨raw.mergeSort leR, List.mergeSort_perm _ _, ?_, e1.symm⟩
  have tr : ∀ a b c : RowN, leR a b = true → leR b c = true → leR a c = true := fun a b c h1 h2 => by
    unfold leR at h1 h2 ⊢
    rw [Bool.not_eq_true', decide_eq_false_iff_not] at h1 h2 ⊢
    intro h3
    have k1 : a.1.cps.toList ≤ b.1.cps.toList := h1
    have k2 : b.1.cps.toList ≤ c.1.cps.toList := h2
    exact (List.le_trans k1 k2) h3
  have tot : ∀ a b : RowN, (leR a b || leR b a) = true := fun a b => by
    unfold leR
    by_cases c : ltT b.1 a.1
    · have : ¬ ltT a.1 b.1 := fun z => ltT_irr _ (ltT_tr _ _ _ c z)
      rw [decide_eq_false this]
      simp
    · rw [decide_eq_false c]
      rfl
  have pw := List.pairwise_mergeSort tr tot raw
  have nd2 : ((raw.mergeSort leR).map (·.1)).Nodup := ((List.mergeSort_perm raw leR).map _).nodup_iff.mpr nd
  generalize raw.mergeSort leR = l at pw nd2
  clear e1 tr tot
  induction l with
  | nil => exact List.Pairwise.nil
  | cons x r ih =>
    obtain ⟨p1, p2⟩ := List.pairwise_cons.mp pw
    rw [List.map_cons] at nd2
    obtain ⟨n1, n2⟩ := List.nodup_cons.mp nd2
    refine List.pairwise_cons.mpr ⟨fun y hy => ?_, ih p2 n2⟩
    have h := p1 y hy
    unfold leR at h
    rw [Bool.not_eq_true', decide_eq_false_iff_not] at h
    exact ltT_tri h fun e => n1 (List.mem_map.mpr ⟨y, hy, e.symm⟩)
theorem rows_eq {as bs : List RowN} (h1 : as.Pairwise ltR) (h2 : bs.Pairwise ltR) (h : as.Perm bs) : as = bs := asc_eq ltR_irr ltR_tr h1 h2 fun k => h.mem_iff
theorem rows_names {as : List RowN} (h : as.Pairwise ltR) : (as.map (·.1)).Nodup := by
  refine List.Pairwise.map _ (fun a b (z : ltR a b) => ?_) h
  intro e
  have z' : ltT a.1 b.1 := z
  rw [e] at z'
  exact ltT_irr _ z'
/-- a side of a step -/
structure GoodI (n : Int) (l : List Int) : Prop where
  ne : l ≠ []
  asc : l.Pairwise (· < ·)
  inn : ∀ k ∈ l, 0 ≤ k ∧ k < n
  few : l.length ≤ 3
structure GoodR (n : Int) (r : RowN) : Prop where
  w : WordS r.1
  i : GoodI n r.2.1
  o : GoodI n r.2.2
structure GoodN (n : Int) (rows : List RowN) : Prop where
  lo : 2 ≤ n
  hi : n ≤ 30
  one : 1 ≤ rows.length
  few : rows.length ≤ 40
  row : ∀ r ∈ rows, GoodR n r
  asc : rows.Pairwise ltR
theorem part_good {n : Int} {l : List Int} (h : GoodI n l) : partD n (tupI l) = true := by
  unfold partD
  have h1 : isNilD (tupI l) = false := by
    cases l with
    | nil => exact absurd rfl h.ne
    | cons x r => rfl
  rw [h1]
  show (!false && ((l.map PyData.int).all (intIn 0 (n - 1)) && ascD (l.map PyData.int))) = true
  rw [(asc_ints l).mpr h.asc]
  have : (l.map PyData.int).all (intIn 0 (n - 1)) = true := by
    rw [List.all_map]
    refine List.all_eq_true.mpr fun k hk => ?_
    obtain ⟨a, b⟩ := h.inn k hk
    show (decide (0 ≤ k) && decide (k ≤ n - 1)) = true
    rw [decide_eq_true a, decide_eq_true (by omega)]
    rfl
  rw [this]
  rfl
theorem net_good {n : Int} {rows : List RowN} (h : GoodN n rows) : netD (netOf n rows) = true := by
  show ((decide (2 ≤ n) && decide (n ≤ 30)) && ((decide (1 ≤ (rows.map rowD).length) && decide ((rows.map rowD).length ≤ 40)) && ((rows.map rowD).all (stepD n) && ascD ((rows.map rowD).map firstD)))) = true
  rw [List.length_map, decide_eq_true h.lo, decide_eq_true h.hi, decide_eq_true h.one, decide_eq_true h.few]
  have h1 : (rows.map rowD).all (stepD n) = true := by
    rw [List.all_map]
    refine List.all_eq_true.mpr fun r hr => ?_
    have g := h.row r hr
    show stepD n (.tuple [.str r.1, tupI r.2.1, tupI r.2.2]) = true
    rw [step_parts, g.w.name, part_good g.i, part_good g.o]
    rfl
  have h2 : (rows.map rowD).map firstD = (rows.map (·.1)).map PyData.str := by
    rw [List.map_map, List.map_map]
    rfl
  rw [h1, h2, (asc_strs _).mpr (List.Pairwise.map _ (fun a b z => z) h.asc)]
  rfl
end K01

set_option Elab.async false
set_option linter.all false
set_option maxRecDepth 100000
set_option maxHeartbeats 4000000
namespace K01
open PySem L2 PySem.KX StX
open PySem.W (AllAlike Sortable dataLe EachIs alike alikeAll)
abbrev s_law_any_net : Stmt := top 34
theorem sc_law_any_net : FnScope ["dice", "total", "places", "rows", "name", "ends", "part", "turn"] ["dice", "total"] (defScope s_law_any_net) := ⟨rfl, rfl, rfl, by decide +kernel, rfl, by decide +kernel, by decide +kernel⟩
/-- the scope of the outer comprehension -/
abbrev scPart : Scope := { kind := ScopeKind.function, names := [(".0", NameKind.local), ("part", NameKind.local), ("range", NameKind.globalImplicit), ("_law_roll", NameKind.globalImplicit), ("dice", NameKind.cell), ("places", NameKind.cell)], isGenerator := false, isCoroutine := false }
/-- drawn places -/
structure RawI (n : Int) (l : List Int) : Prop where
  one : 1 ≤ l.length
  few : l.length ≤ 3
  inn : ∀ k ∈ l, 0 ≤ k ∧ k < n
theorem RawI.tidy {n : Int} {l ms : List Int} (h : RawI n l) (t : Tidy l ms) (hl : ms.length ≤ 3) : GoodI n ms := by
  refine ⟨fun z => ?_, t.asc, fun k hk => h.inn k ((t.mem k).mp hk), hl⟩
  subst z
  match l, h.one with
  | x :: r, _ => exact nomatch (t.mem x).mpr List.mem_cons_self
theorem row_dq {K : PySem.W.Frag} {H : Hp} {t a b : Addr} {x : Str} {as bs : List Int} (h : H t = some (.tup [.str x, .ref a, .ref b])) (ha : H a = some (.tup (as.map V.int))) (hb : H b = some (.tup (bs.map V.int))) : Dq K H (.ref t) (rowD (x, as, bs)) :=
  .tup (SqT.of h) (.cons (.str x) (.cons (.tup (SqT.of ha) ints_dq) (.cons (.tup (SqT.of hb) ints_dq) .nil)))
theorem dqAll_snoc {K : PySem.W.Frag} {H : Hp} {vs : List V} {ds : List PyData} {v : V} {d : PyData} (h : DqAll K H vs ds) (k : Dq K H v d) : DqAll K H (vs ++ [v]) (ds ++ [d]) := DqAll_snoc h k
theorem alike_r (a b : RowN) : alike (rowD a) (rowD b) = true := alike_rows _ _ _ _ _ _
section
variable {P : Program} {w : World} {K : PySem.W.Frag} {mg : Str → Option Value} {base : Heap}
/-- a drawn net; nothing changes but the dice -/
def spAny (K : PySem.W.Frag) : Sp := fun vs H Q _ => ∃ (p : Addr) (m : Int) (total : Nat), vs = [.ref p, .int (total : Nat)] ∧ Dc p m H ∧ 1 ≤ total ∧ total ≤ 26 ∧ m + 3000 < 2 ^ 30 ∧
  ∀ (n : Int) (rows : List RowN) (v : V) (H' : Hp), GoodN n rows → rows.length = total → Nxt p H H' → Dc p (m + 2000) H' → Dq K (hide [p] H') v (netOf n rows) → Q v H'
theorem ok_any_net {f : Addr} {fd : FuncData} (F : Fun K "_law_any_net" "_law_any_net" s_law_any_net f fd) (T : TxtA mg) (S : TxtS mg) (TX : TxtX mg) (O_law_roll : Own P w K mg base CX0 "_law_roll" 1 ["dice", "total"] spRollD) (O_law_words : Own P w K mg base CX0 "_law_words" 2 ["dice", "total"] spWords) :
    FnG P w K mg base CX0 3 f fd ["dice", "total"] (spAny K) := by
  have nd := sc_law_any_net.nd
  refine okG F sc_law_any_net (fun vs H Q E h => ?_) (fun cdv A outer s H vs Q E hr h => ?_)
  · obtain ⟨_, _, _, rfl, _⟩ := h
    rfl
  · obtain ⟨p, m, total, rfl, hp, ht1, ht, hm, k⟩ := h
    refine ⟨_, (pss_cons (ps_set (i := 2) nd rfl (Or.inr rfl) (pe_op op_addA pe_int (pe_own O_law_roll hr (pa_cons (av 0) (pa_cons (pe_ixA (pe_lstS (pa_cons pe_int (pa_cons pe_int (pa_cons pe_int pa_nil)))) (pe_own O_law_roll hr (pa_cons (av 0) (pa_cons pe_int pa_nil)) (by decide))) pa_nil)) (by decide))))
      (pss_cons (ps_set (i := 3) nd rfl (Or.inl rfl) (pe_lstS pa_nil))
      (pss_cons (ps_for PassesOwn.never rfl (pi_list (pe_own O_law_words hr (pa_cons (av 0) (pa_cons (av 1) pa_nil)) (by decide))) (pg_name (i := 4) nd rfl (Or.inl rfl)) (pss_cons (ps_setLc (i := 5) (own := [("part", 6)]) (by rfl) nd rfl rfl (sw_true rfl rfl rfl (by decide +kernel)) (pi_range1 (by rfl) TX.range (pa_cons pe_int pa_nil)) (blkOk_by (N := ["dice", "total", "places", "rows", "name", "ends", "part", "turn"]) (sc := defScope s_law_any_net) (by decide +kernel)) (fun _ _ _ _ _ => (pg_name (i := 6) nd rfl (Or.inl rfl))) (fun _ _ _ _ _ => pts_nil) (fun _ _ _ _ _ => (pe_lc (own := [("turn", 7)]) (by rfl) nd (pi_range1 (by rfl) TX.range (pa_cons (show PE _ _ (tOp (rAddA K) (tC (.int 1)) (tCall spRollD [] E0 (tCons (aVar 0) (tCons (tC (.int 3)) tNil)))) from pe_op op_addA pe_int (pe_own O_law_roll hr (pa_cons (av 0) (pa_cons pe_int pa_nil)) (by decide))) pa_nil)) (blkOk_by (N := ["dice", "total", "places", "rows", "name", "ends", "part", "turn"]) (sc := scPart) (by decide +kernel)) (fun _ _ _ _ _ => (pg_name (i := 7) nd rfl (Or.inl rfl))) (fun _ _ _ _ _ => pts_nil) (fun _ _ _ _ _ => (pe_own O_law_roll hr (pa_cons (av 0) (pa_cons (av 2) pa_nil)) (by decide))))))
      (pss_one (ps_expr (pe_appS (av 3) (pe_tupS (pa_cons (av 4) (pa_cons (pe_callTy call_tupLS (by rfl) T.tuple (by decide +kernel) (pa_cons (pe_callB (call_sortTI rfl) (by rfl) S.sorted (by decide +kernel) (pa_cons (pe_callTy (call_setLI rfl) (by rfl) S.set (by decide +kernel) (pa_cons (pe_ixA (av 5) pe_int) pa_nil)) pa_nil)) pa_nil)) (pa_cons (pe_callTy call_tupLS (by rfl) T.tuple (by decide +kernel) (pa_cons (pe_callB (call_sortTI rfl) (by rfl) S.sorted (by decide +kernel) (pa_cons (pe_callTy (call_setLI rfl) (by rfl) S.set (by decide +kernel) (pa_cons (pe_ixA (av 5) pe_int) pa_nil)) pa_nil)) pa_nil)) pa_nil)))))))))
      (pss_one (ps_ret (pe_tupS (pa_cons (av 2) (pa_cons (pe_callTy call_tupLS (by rfl) T.tuple (by decide +kernel) (pa_cons (pe_callB (call_sortedQ hr.units64) (by rfl) S.sorted (by decide +kernel) (pa_cons (av 3) pa_nil)) pa_nil)) pa_nil)))))))), ?_⟩
    refine ⟨by simp, fun p3 H3 s3 n3 l3 => ?_⟩
    refine ⟨p, _, _, rfl, hp.same s3, by omega, by decide, by decide, fun r H4 r0 r1 dc4 e4 => ?_⟩
    have hp3 : p3 ≠ p := hp.ne n3
    have l4 : H4 p3 = some (.lst [.int 3, .int 6, .int 29]) := (e4 p3 hp3).trans l3
    have nx4 : Nxt p H H4 := (Nxt.of s3).trans (Nxt.of_eq e4)
    obtain ⟨j, rfl⟩ : ∃ j : Nat, r = (j : Int) := ⟨r.toNat, by omega⟩
    have hj : j < 3 := by omega
    obtain ⟨u, hu, hu1, hu8⟩ : ∃ u : Nat, ([V.int 3, V.int 6, V.int 29] : List V)[j]? = some (V.int u) ∧ 1 ≤ u ∧ u ≤ 29 := by
      match j, hj with
      | 0, _ => exact ⟨3, rfl, by decide, by decide⟩
      | 1, _ => exact ⟨6, rfl, by decide, by decide⟩
      | 2, _ => exact ⟨29, rfl, by decide, by decide⟩
    refine .inl ⟨_, .int u, SqL.of l4, atI_nat hu, ?_⟩
    refine ⟨p, _, _, rfl, dc4, by omega, by omega, by omega, fun r2 H5 r20 r21 dc5 e5 => ?_⟩
    have nx5 := nx4.trans (Nxt.of_eq e5)
    refine ⟨by simp, fun R H6 s6 n6 l6 => ?_⟩
    have hRp : R ≠ p := dc5.ne n6
    have nx6 := nx5.trans (Nxt.of s6)
    have nR : H R = none := nx5.free hRp n6
    have dc6 := dc5.same s6
    refine ⟨p, _, total, rfl, dc6, ht, by omega, fun fs W H7 hfl hfn hfw nx7 dc7 nW lW => ?_⟩
    have hWp : W ≠ p := dc6.ne nW
    have nx07 := nx6.trans nx7
    have hR7 : H7 R = some (.lst []) := nx7.get hRp l6
    have hWR : W ≠ R := fun z => by rw [z, l6] at nW; cases nW
    refine ⟨W, rfl, ⟨_, SqL.of lW⟩, ?_⟩
    refine for_list (K := K) (a := W) (xs := fs.map V.str) (fun i σ H' => ∃ (raw : List RowN) (acc : List V) (o4 o5 o6 o7 : Option V), σ = [some (.ref p), some (.int (total : Nat)), some (.int (2 + r2)), some (.ref R), o4, o5, o6, o7] ∧ H' R = some (.lst acc) ∧ DqAll K (hide [R, p] H') acc (raw.map rowD) ∧ raw.map (·.1) = fs.take i ∧ (∀ r ∈ raw, GoodR (2 + r2) r) ∧ (∀ b o, b ≠ p → b ≠ R → H7 b = some o → H' b = some o) ∧ Dc p (m + 302 + 20 * i) H')
      ⟨[], [], _, _, _, _, rfl, hR7, .nil, by simp, (fun r hr => nomatch hr), fun b o _ _ e => e, dc7.mono (by omega)⟩ (fun i σ H' _ ⟨_, _, _, _, _, _, _, _, _, _, _, kp, _⟩ => SqL.of (kp W _ hWp hWR lW)) ?_ ?_
    · rintro i z σ H8 hi ⟨raw, acc, o4, o5, o6, o7, rfl, hR8, hacc, hnm, hgood, kp, dc8⟩
      obtain ⟨x, hx, rfl⟩ : ∃ x, fs[i]? = some x ∧ z = .str x := by
        rw [List.getElem?_map] at hi
        cases e : fs[i]? with
        | none => rw [e] at hi; cases hi
        | some x => rw [e] at hi; exact ⟨x, rfl, (Option.some.inj hi).symm⟩
      have hil : i < fs.length := (List.getElem?_eq_some_iff.mp hx).1
      refine ⟨2, rfl, by decide, by decide, fun D hD => ?_⟩
      have hDp : D ≠ p := dc8.ne hD
      have hDR : D ≠ R := fun z => by rw [z, hR8] at hD; cases hD
      refine lc_range (lo := 0) (n := (2 : Int).toNat) (fun t H' => ∃ ac2 : List V, H' D = some (.lst ac2) ∧ ac2.length = t ∧ (∀ (j : Nat) (v : V), ac2[j]? = some v → ∃ (q : Addr) (ns : List Int), v = .ref q ∧ q ≠ p ∧ q ≠ D ∧ H' q = some (.lst (ns.map V.int)) ∧ RawI (2 + r2) ns) ∧ Nxt p H8 H' ∧ Dc p (m + 302 + 20 * i + 5 * t) H')
        ⟨[], upd_same, rfl, (fun j v e => nomatch e), (Nxt.refl).put hD, (dc8.upd hDp).mono (by omega)⟩ ?_ ?_
      · rintro t H9 htt ⟨ac2, hD9, hl9, hq9, nx9, dc9⟩
        have ht2 : t < 2 := htt
        refine ⟨rfl, ?_⟩
        refine ⟨p, _, _, rfl, dc9, by omega, by decide, by decide, fun r3 H10 r30 r31 dc10 e10 => ?_⟩
        refine ⟨_, rfl, by omega, by omega, fun D2 hD2 => ?_⟩
        have hD2p : D2 ≠ p := dc10.ne hD2
        have nx10 := nx9.trans (Nxt.of_eq e10)
        have hD10 : H10 D = some (.lst ac2) := (e10 D hDp).trans hD9
        have hD2D : D2 ≠ D := fun z => by rw [z, hD10] at hD2; cases hD2
        refine lc_range (lo := 0) (n := (1 + r3).toNat) (fun y H' => ∃ ns : List Int, H' D2 = some (.lst (ns.map V.int)) ∧ ns.length = y ∧ (∀ k ∈ ns, 0 ≤ k ∧ k < 2 + r2) ∧ (∀ b o, b ≠ p → H10 b = some o → H' b = some o) ∧ Dc p (m + 302 + 20 * i + 5 * t + 1 + y) H')
          ⟨[], upd_same, rfl, (fun k hk => nomatch hk), (fun b o _ e => by rw [upd_ne (ne_of_none e hD2)]; exact e), (dc10.upd hD2p).mono (by omega)⟩ ?_ ?_
        · rintro y H11 hy ⟨ns, hns, hnl, hnin, kp11, dc11⟩
          refine ⟨rfl, ?_⟩
          refine ⟨p, _, _, rfl, dc11, by omega, by omega, by omega, fun r4 H12 r40 r41 dc12 e12 => ?_⟩
          refine ⟨ns.map V.int, (e12 D2 hD2p).trans hns, by rw [List.length_map, sizeLine_eq]; omega, ns ++ [r4], by rw [upd_same, List.map_append]; rfl, by simp [hnl], fun k hk => ?_, fun b o hb e => ?_, (dc12.upd hD2p).mono (by omega)⟩
          · rcases List.mem_append.mp hk with z | z
            · exact hnin k z
            · rw [List.mem_singleton.mp z]
              exact ⟨r40, r41⟩
          · rw [upd_ne (ne_of_none e hD2), e12 b hb]
            exact kp11 b o hb e
        · rintro H11 ⟨ns, hns, hnl, hnin, kp11, dc11⟩
          have hraw : RawI (2 + r2) ns := ⟨by omega, by omega, hnin⟩
          have hD11 := kp11 D _ hDp hD10
          refine ⟨ac2, hD11, by rw [sizeLine_eq]; omega, ac2 ++ [.ref D2], upd_same, by simp [hl9], fun j v e => ?_, ?_, (dc11.upd hDp).mono (by omega)⟩
          · by_cases hj : j < ac2.length
            · rw [List.getElem?_append_left hj] at e
              obtain ⟨q, ns', rfl, h1, hqD, h2, h3⟩ := hq9 j v e
              exact ⟨q, ns', rfl, h1, hqD, by rw [upd_ne hqD]; exact kp11 q _ h1 ((e10 q h1).trans h2), h3⟩
            · rw [List.getElem?_append_right (by omega)] at e
              have e3 : j - ac2.length = 0 := by
                have := (List.getElem?_eq_some_iff.mp e).1
                simp at this
                omega
              rw [e3] at e
              cases e
              exact ⟨D2, ns, rfl, hD2p, hD2D, by rw [upd_ne hD2D]; exact hns, hraw⟩
          · exact nxt_of fun b o hb e => by
              rw [upd_ne (ne_of_none e hD)]
              exact kp11 b o hb (nx10.get hb e)
      · rintro H9 ⟨ac2, hD9, hl9, hq9, nx9, dc9⟩
        have hl2 : ac2.length = 2 := hl9
        obtain ⟨v0, v1, rfl⟩ : ∃ v0 v1, ac2 = [v0, v1] := by
          match ac2, hl2 with
          | [v0, v1], _ => exact ⟨v0, v1, rfl⟩
        obtain ⟨q0, ns0, rfl, h01, h0D, h02, raw0⟩ := hq9 0 v0 rfl
        obtain ⟨q1, ns1, rfl, h11, h1D, h12, raw1⟩ := hq9 1 v1 rfl
        have hR9 : H9 R = some (.lst acc) := nx9.get hRp hR8
        refine ⟨R, acc, rfl, hR9, ?_⟩
        refine .inl ⟨_, .ref q0, SqL.of hD9, rfl, ?_⟩
        refine ⟨q0, ns0, rfl, SqL.of h02, by have := raw0.few; omega, fun p10 c10 H10 s10 n10 e10 hc10 => ?_⟩
        refine ⟨p10, _, c10, rfl, e10, by have := raw0.few; omega, fun ms0 p11 H11 asc0 mem0 len0 s11 n11 l11 => ?_⟩
        refine ⟨p11, _, rfl, SqL.of l11, fun p12 H12 s12 n12 l12 => ?_⟩
        have s912 := (s10.trans s11).trans s12
        refine .inl ⟨_, .ref q1, SqL.of (s912 _ _ hD9), rfl, ?_⟩
        refine ⟨q1, ns1, rfl, SqL.of (s912 _ _ h12), by have := raw1.few; omega, fun p13 c13 H13 s13 n13 e13 hc13 => ?_⟩
        refine ⟨p13, _, c13, rfl, e13, by have := raw1.few; omega, fun ms1 p14 H14 asc1 mem1 len1 s14 n14 l14 => ?_⟩
        refine ⟨p14, _, rfl, SqL.of l14, fun p15 H15 s15 n15 l15 => ?_⟩
        refine ⟨by simp, fun p16 H16 s16 n16 l16 => ?_⟩
        have s1216 := ((s13.trans s14).trans s15).trans s16
        have s916 := s912.trans s1216
        refine ⟨acc, s916 _ _ hR9, ?_, ?_⟩
        · have := hacc.length
          have h2 := congrArg List.length hnm
          simp only [List.length_map, List.length_take] at h2 this
          omega
        have dc16 : Dc p (m + 302 + 20 * i + 10) H16 := (dc9.same s916).mono (by omega)
        have hp9 : H9 p ≠ none := dc9.some
        have ne9 : ∀ {b : Addr}, H9 b = none → b ≠ p := fun {b} e z => hp9 (z ▸ e)
        have hp12 : p12 ≠ p := (dc9.same (s10.trans s11)).ne n12
        have hp15 : p15 ≠ p := (dc9.same ((s912.trans s13).trans s14)).ne n15
        have hp16 : p16 ≠ p := (dc9.same (((s912.trans s13).trans s14).trans s15)).ne n16
        have neR : ∀ {H' : Hp} {b : Addr}, Same H9 H' → H' b = none → b ≠ R := fun {H' b} s e z => by
          rw [z, s _ _ hR9] at e
          cases e
        have hid : ∀ {H' : Hp} {b : Addr} {o : HO}, b ≠ p → b ≠ R → H' b = some o → hide [R, p] H' b = some o := fun {H' b o} hb hb2 e => by
          rw [hide_in (fun z => by
            rcases List.mem_cons.mp z with y | y
            · exact hb2 y
            · exact hb (List.mem_singleton.mp y))]
          exact e
        have g0 := raw0.tidy (ms := ms0) ⟨asc0, fun k => (mem0 k).trans decide_eq_true_iff⟩ (by have := raw0.few; omega)
        have g1 := raw1.tidy (ms := ms1) ⟨asc1, fun k => (mem1 k).trans decide_eq_true_iff⟩ (by have := raw1.few; omega)
        have hrow : Dq K (hide [R, p] H16) (.ref p16) (rowD (x, ms0, ms1)) := row_dq (hid hp16 (neR (((s912.trans s13).trans s14).trans s15) n16) l16) (hid hp12 (neR (s10.trans s11) n12) (s1216 _ _ l12)) (hid hp15 (neR ((s912.trans s13).trans s14) n15) (s16 _ _ l15))
        have nx816 : Nxt p H8 H16 := nx9.trans (Nxt.of s916)
        have s2 : Same (hide [R, p] H8) (hide [R, p] H16) := fun b o e => by
          obtain ⟨e1, e2⟩ := hide_of e
          have b1 : b ≠ p := fun z => e2 (by rw [z]; simp)
          have b2 : b ≠ R := fun z => e2 (by rw [z]; simp)
          exact hid b1 b2 (nx816.get b1 e1)
        refine ⟨raw ++ [(x, ms0, ms1)], acc ++ [.ref p16], _, _, _, _, rfl, upd_same, ?_, ?_, ?_, ?_, (dc16.upd hRp).mono (by omega)⟩
        · rw [hide_upd, List.map_append]
          exact dqAll_snoc (DqAll.same s2 _ _ hacc) hrow
        · rw [List.map_append, hnm, List.take_add_one, hx]
          rfl
        · intro r hr
          rcases List.mem_append.mp hr with z | z
          · exact hgood r z
          · rw [List.mem_singleton.mp z]
            exact ⟨hfw x (List.mem_of_getElem? hx), g0, g1⟩
        · intro b o b1 b2 e
          rw [upd_ne b2]
          exact nx816.get b1 (kp b o b1 b2 e)
    · rintro σ H8 ⟨raw, acc, o4, o5, o6, o7, rfl, hR8, hacc, hnm, hgood, kp, dc8⟩
      rw [List.length_map, List.take_length] at hnm
      rw [List.length_map] at dc8
      have hlr : raw.length = total := by
        have := congrArg List.length hnm
        simp only [List.length_map] at this
        omega
      have nd' : (raw.map (·.1)).Nodup := by rw [hnm]; exact hfn
      obtain ⟨rows, pm, asc, es⟩ := sort_rows nd'
      have hacc8 : DqAll K H8 acc (raw.map rowD) := DqAll.same hide_sub _ _ hacc
      have hmem : ∀ d ∈ raw.map rowD, ∃ r ∈ raw, d = rowD r := fun d hd => by
        obtain ⟨r, hr, e⟩ := List.mem_map.mp hd
        exact ⟨r, hr, e.symm⟩
      refine ⟨R, acc, raw.map rowD, rfl, SqL.of hR8, hacc8, fun d hd d' hd' => ?_, .inl fun d hd => ?_, by simp; omega, fun d hd => ?_, fun p9 H9 s9 n9 l9 => ?_⟩
      · obtain ⟨r, _, rfl⟩ := hmem d hd
        obtain ⟨r', _, rfl⟩ := hmem d' hd'
        exact alike_r r r'
      · obtain ⟨r, _, rfl⟩ := hmem d hd
        exact ⟨_, _, rfl⟩
      · obtain ⟨r, _, rfl⟩ := hmem d hd
        exact depth_row _ _ _
      · refine ⟨p9, _, rfl, SqL.of l9, fun p10 H10 s10 n10 l10 => ?_⟩
        refine ⟨by simp, fun p11 H11 s11 n11 l11 => ?_⟩
        have hn10 : p10 ≠ p := (dc8.same s9).ne n10
        have hn11 : p11 ≠ p := (dc8.same (s9.trans s10)).ne n11
        have hid : ∀ {H' : Hp} {b : Addr} {o : HO}, b ≠ p → H' b = some o → hide [p] H' b = some o := fun {H' b o} hb e => by
          rw [hide_in (fun z => hb (List.mem_singleton.mp z))]
          exact e
        have s811 := (s9.trans s10).trans s11
        have s2 : Same (hide [R, p] H8) (hide [p] H11) := fun b o e => by
          obtain ⟨e1, e2⟩ := hide_of e
          exact hid (fun z => e2 (by rw [z]; simp)) (s811 _ _ e1)
        have hdq := sortQ_dq (DqAll.same s2 _ _ hacc)
        rw [es] at hdq
        refine k (2 + r2) rows (.ref p11) H11 ⟨by omega, by omega, by rw [pm.length_eq]; omega, by rw [pm.length_eq]; omega, fun r hr => hgood r (pm.mem_iff.mp hr), asc⟩ (by rw [pm.length_eq]; exact hlr) ?_ ((dc8.same s811).mono (by omega)) ?_
        · refine (nxt_of fun b o hb e => ?_ : Nxt p H H8).trans (Nxt.of s811)
          have hbR : b ≠ R := ne_of_none e nR
          exact kp b o hb hbR (nx07.get hb e)
        · exact .tup (SqT.of (hid hn11 l11)) (.cons (.int _) (.cons (.tup (SqT.of (hid hn10 (s11 _ _ l10))) hdq) .nil))
end
end K01

set_option Elab.async false
set_option linter.all false
set_option maxRecDepth 100000
set_option maxHeartbeats 4000000
namespace K01
open PySem L2 PySem.KX StX
open PySem.W (AllAlike Sortable dataLe EachIs alike alikeAll)
abbrev s_law_loose : Stmt := top 40
theorem sc_law_loose : FnScope ["dice", "part", "place"] ["dice", "part"] (defScope s_law_loose) := ⟨rfl, rfl, rfl, by decide +kernel, rfl, by decide +kernel, by decide +kernel⟩
section
variable {P : Program} {w : World} {K : PySem.W.Frag} {mg : Str → Option Value} {base : Heap}
/-- a new tuple of the same ints, in some order, some of them repeated -/
def spLoose (K : PySem.W.Frag) : Sp := fun vs H Q _ => ∃ (p a : Addr) (m : Int) (ns : List Int), vs = [.ref p, .ref a] ∧ Dc p m H ∧ SqT K (hide [p] H) a (ns.map V.int) ∧ ns.length ≤ 3 ∧ m + 3000 < 2 ^ 30 ∧
  ∀ (ms : List Int) (q : Addr) (H' : Hp), (∀ k, k ∈ ms ↔ k ∈ ns) → ms.length ≤ 6 → Nxt p H H' → Dc p (m + 20) H' → q ≠ p → H' q = some (.tup (ms.map V.int)) → Q (.ref q) H'
theorem ok_loose {f : Addr} {fd : FuncData} (F : Fun K "_law_loose" "_law_loose" s_law_loose f fd) (T : TxtA mg) (TX : TxtX mg) (O_law_roll : Own P w K mg base CX0 "_law_roll" 1 ["dice", "total"] spRollD) (O_law_mixed : Own P w K mg base CX0 "_law_mixed" 2 ["dice", "items"] (spMixD K)) :
    FnG P w K mg base CX0 3 f fd ["dice", "part"] (spLoose K) := by
  have nd := sc_law_loose.nd
  refine okG F sc_law_loose (fun vs H Q E h => ?_) (fun cdv A outer s H vs Q E hr h => ?_)
  · obtain ⟨_, _, _, _, rfl, _⟩ := h
    rfl
  · obtain ⟨p, a, m, ns, rfl, hp, ha, hn, hm, k⟩ := h
    refine ⟨_, (pss_one (ps_ret (pe_callTy call_tupLS (by rfl) T.tuple (by decide +kernel) (pa_cons (pe_own O_law_mixed hr (pa_cons (av 0) (pa_cons (pe_op op_addS (pe_callTy call_lstS (by rfl) TX.list (by decide +kernel) (pa_cons (av 1) pa_nil)) (pe_lc (own := [("place", 2)]) (by rfl) nd (pi_tup (av 1)) (blkOk_by (N := ["dice", "part", "place"]) (sc := defScope s_law_loose) (by decide +kernel)) (fun _ _ _ _ _ => (pg_name (i := 2) nd rfl (Or.inl rfl))) (fun _ _ _ _ _ => (pts_one (show PT _ _ (aTest (tOp (rEqA K) (tCall spRollD [] E0 (tCons (aVar 0) (tCons (tC (.int 2)) tNil))) (tC (.int 0)))) from pt_cmpA (op_eqA hr.units64) (pe_own O_law_roll hr (pa_cons (av 0) (pa_cons pe_int pa_nil)) (by decide)) pe_int))) (fun _ _ _ _ _ => (av 2)))) pa_nil)) (by decide)) pa_nil)))), ?_⟩
    have hid : ∀ {H' : Hp} {b : Addr} {o : HO}, b ≠ p → H' b = some o → hide [p] H' b = some o := fun {H' b o} hb e => by
      rw [hide_in (fun z => hb (List.mem_singleton.mp z))]
      exact e
    refine ⟨a, _, rfl, .inr (hide_sub.sqT ha), fun L H1 s1 n1 l1 => ?_⟩
    have hLp : L ≠ p := hp.ne n1
    have dc1 := hp.same s1
    have ha1 : SqT K (hide [p] H1) a (ns.map V.int) := (Nxt.of s1 : Nxt p H H1).sqT ha
    refine ⟨a, rfl, ⟨_, hide_sub.sqT ha1⟩, fun D hD => ?_⟩
    have hDp : D ≠ p := dc1.ne hD
    refine lc_it (walk_tup (xs := ns.map V.int)) (fun t H' => ∃ ac : List Int, H' D = some (.lst (ac.map V.int)) ∧ ac.length ≤ t ∧ (∀ k ∈ ac, k ∈ ns) ∧ Nxt p H1 H' ∧ Dc p (m + t) H')
      ⟨[], upd_same, by simp, (fun k hk => nomatch hk), (Nxt.refl).put hD, (dc1.upd hDp).mono (by omega)⟩ (fun t H' _ ⟨_, _, _, _, nx, _⟩ => hide_sub.sqT (nx.sqT ha1)) ?_ ?_
    · rintro t x H2 H3 ht ⟨ac, hD2, hal, hin, nx2, dc2⟩ ⟨rfl, hx⟩
      rw [List.length_map] at ht
      obtain ⟨z, hz, rfl⟩ : ∃ z, ns[t]? = some z ∧ x = V.int z := by
        rw [List.getElem?_map] at hx
        cases e : ns[t]? with
        | none => rw [e] at hx; cases hx
        | some z => rw [e] at hx; exact ⟨z, rfl, (Option.some.inj hx).symm⟩
      refine ⟨rfl, p, _, _, rfl, dc2, by omega, by decide, by decide, fun r H4 r0 r1 dc4 e4 => ?_⟩
      have nx4 := nx2.trans (Nxt.of_eq e4)
      have hD4 := (e4 D hDp).trans hD2
      by_cases c : r = 0
      · show (if decide (r = 0) = true then _ else _)
        rw [decide_eq_true c]
        refine (iteT ?_ : if true = true then _ else _)
        refine ⟨ac.map V.int, hD4, by rw [List.length_map, sizeLine_eq]; omega, ac ++ [z], by rw [upd_same, List.map_append]; rfl, by rw [List.length_append]; simp; omega, fun k hk => ?_, nx4.put hD, (dc4.upd hDp).mono (by omega)⟩
        rcases List.mem_append.mp hk with y | y
        · exact hin k y
        · rw [List.mem_singleton.mp y]
          exact List.mem_of_getElem? hz
      · show (if decide (r = 0) = true then _ else _)
        rw [decide_eq_false c]
        refine iteF ⟨ac, hD4, by omega, hin, nx4, dc4.mono (by omega)⟩
    · rintro H2 ⟨ac, hD2, hal, hin, nx2, dc2⟩
      rw [List.length_map] at hal dc2
      have hL2 := nx2.get hLp l1
      refine .inl ⟨_, _, hL2, hD2, by simp; omega, fun q H3 s3 n3 l3 => ?_⟩
      refine ⟨p, q, _, _, rfl, dc2.same s3, by omega, .inl (SqL.of l3), by simp; omega, fun ys q4 H4 pm nx4 dc4 n4 l4 => ?_⟩
      obtain ⟨ms, rfl⟩ : ∃ ms : List Int, ys = ms.map V.int := by
        rw [← List.map_append] at pm
        have hall : ∀ y ∈ ys, ∃ i, y = V.int i := fun y hy => by
          obtain ⟨i, _, e⟩ := List.mem_map.mp (pm.mem_iff.mp hy)
          exact ⟨i, e.symm⟩
        clear pm l4
        induction ys with
        | nil => exact ⟨[], rfl⟩
        | cons y r ih =>
          obtain ⟨i, rfl⟩ := hall y List.mem_cons_self
          obtain ⟨ms, rfl⟩ := ih fun y hy => hall y (List.mem_cons_of_mem _ hy)
          exact ⟨i :: ms, rfl⟩
      refine ⟨q4, _, rfl, SqL.of l4, fun q5 H5 s5 n5 l5 => ?_⟩
      have hlen := pm.length_eq
      simp only [List.length_append, List.length_map] at hlen
      refine k ms q5 H5 (fun k => ?_) (by omega) ?_ ((dc4.same s5).mono (by simp; omega)) ((dc4).ne n5) l5
      · rw [← List.map_append] at pm
        have h1 := pm.mem_iff (a := V.int k)
        simp only [List.mem_map, V.int.injEq, exists_eq_right, List.mem_append] at h1
        rw [h1]
        exact ⟨fun z => z.elim id (hin k), .inl⟩
      · exact (((Nxt.of s1).trans nx2).trans (Nxt.of s3)).trans (nx4.trans (Nxt.of s5))
end
end K01

set_option Elab.async false
set_option linter.all false
set_option maxRecDepth 100000
set_option maxHeartbeats 4000000
namespace K01
open PySem L2 PySem.KX StX
open PySem.W (AllAlike Sortable dataLe EachIs alike alikeAll)
abbrev s_law_tidied : Stmt := top 41
theorem sc_law_tidied : FnScope ["places", "given", "rows", "step", "net"] ["places", "given"] (defScope s_law_tidied) := ⟨rfl, rfl, rfl, by decide +kernel, rfl, by decide +kernel, by decide +kernel⟩
def tidyOk (n : Int) : PyData → Bool
  | .tuple [a, b, c] => isNameD a && (allIn n b && allIn n c)
  | _ => false
theorem tidy3 {n : Int} : ∀ {ds : List PyData}, ds.length ≠ 3 → tidyOk n (.tuple ds) = false
  | [], _ => rfl
  | [_], _ => rfl
  | [_, _], _ => rfl
  | [_, _, _], h => absurd rfl h
  | _ :: _ :: _ :: _ :: _, _ => rfl
theorem allIn_is {n : Int} {d : PyData} (h : allIn n d = true) : ∃ ns : List Int, d = tupI ns ∧ ∀ k ∈ ns, 0 ≤ k ∧ k < n := by
  cases d with
  | tuple ds =>
    obtain ⟨ns, rfl⟩ := all_ints h
    refine ⟨ns, rfl, fun k hk => ?_⟩
    have h' : (ns.map PyData.int).all (intIn 0 (n - 1)) = true := h
    have := List.all_eq_true.mp h' (.int k) (List.mem_map.mpr ⟨k, hk, rfl⟩)
    have h2 : (decide (0 ≤ k) && decide (k ≤ n - 1)) = true := this
    rw [Bool.and_eq_true, decide_eq_true_eq, decide_eq_true_eq] at h2
    omega
  | _ => cases h
theorem allIn_of {n : Int} {ns : List Int} (h : ∀ k ∈ ns, 0 ≤ k ∧ k < n) : allIn n (tupI ns) = true := by
  show (ns.map PyData.int).all (intIn 0 (n - 1)) = true
  rw [List.all_map]
  refine List.all_eq_true.mpr fun k hk => ?_
  obtain ⟨a, b⟩ := h k hk
  show (decide (0 ≤ k) && decide (k ≤ n - 1)) = true
  rw [decide_eq_true a, decide_eq_true (by omega)]
  rfl
theorem tidy_is {n : Int} {d : PyData} (h : tidyOk n d = true) : ∃ x ns ms, d = .tuple [.str x, tupI ns, tupI ms] ∧ isNameD (.str x) = true ∧ (∀ k ∈ ns, 0 ≤ k ∧ k < n) ∧ ∀ k ∈ ms, 0 ≤ k ∧ k < n := by
  cases d with
  | tuple ds =>
    by_cases h3 : ds.length = 3
    · obtain ⟨a, b, c, rfl⟩ := len3 h3
      have e3 : (isNameD a && (allIn n b && allIn n c)) = true := h
      simp only [Bool.and_eq_true] at e3
      obtain ⟨h1, h2, h4⟩ := e3
      obtain ⟨ns, rfl, k1⟩ := allIn_is h2
      obtain ⟨ms, rfl, k2⟩ := allIn_is h4
      cases a with
      | str x => exact ⟨x, ns, ms, rfl, h1, k1, k2⟩
      | _ => cases h1
    · rw [tidy3 h3] at h
      cases h
  | _ => cases h
/-- what can be put in order and gives a net holds places alone -/
theorem can_tidy {n : Int} {ds : List PyData} (h : ds.all canD = true) (k : netD (makeD n ds) = true) : ds.all (tidyOk n) = true := by
  refine List.all_eq_true.mpr fun d hd => ?_
  have hc := List.all_eq_true.mp h d hd
  obtain ⟨x, ns, ms, rfl⟩ := can_is hc
  have hn : isNameD (.str x) = true := by
    have e3 : (isNameD (.str x) && (intsD (tupI ns) && intsD (tupI ms))) = true := hc
    exact (Bool.and_eq_true_iff.mp e3).1
  have k' : ((decide (2 ≤ n) && decide (n ≤ 30)) && ((decide (1 ≤ ((ds.map putD).mergeSort (dataLe false id)).length) && decide (((ds.map putD).mergeSort (dataLe false id)).length ≤ 40)) && (((ds.map putD).mergeSort (dataLe false id)).all (stepD n) && ascD (((ds.map putD).mergeSort (dataLe false id)).map firstD)))) = true := k
  simp only [Bool.and_eq_true] at k'
  have hs := List.all_eq_true.mp k'.2.2.1 (putD (.tuple [.str x, tupI ns, tupI ms])) (List.mem_mergeSort.mpr (List.mem_map.mpr ⟨_, hd, rfl⟩))
  rw [put_is, step_parts] at hs
  simp only [Bool.and_eq_true] at hs
  have r : ∀ l : List Int, partD n (tupI (tidyI l)) = true → allIn n (tupI l) = true := fun l hl => by
    obtain ⟨l2, e, q⟩ := allIn_is (part_all hl).1
    have e2 : tidyI l = l2 := by
      have := congrArg (fun d : PyData => match d with | .tuple z => z.map intOf | _ => []) e
      have id2 : ∀ z : List Int, (z.map PyData.int).map intOf = z := fun z => by
        rw [List.map_map]
        exact List.map_id z
      have this' : ((tidyI l).map PyData.int).map intOf = (l2.map PyData.int).map intOf := this
      rw [id2, id2] at this'
      exact this'
    refine allIn_of fun k hk => q k ?_
    rw [← e2]
    exact ((tidyI_ok l).mem k).mpr hk
  show (isNameD (.str x) && (allIn n (tupI ns) && allIn n (tupI ms))) = true
  rw [hn, r ns hs.2.1, r ms hs.2.2]
  rfl
theorem sm60_i : ∀ l : List Int, sm60.sm60All (l.map PyData.int) = true
  | [] => by simp [sm60.sm60All]
  | x :: r => by simp [sm60.sm60All, sm60, sm60_i r]
theorem sm60_ints {l : List Int} (h : l.length ≤ 60) : sm60 (tupI l) = true := by
  have h2 : sm60.sm60All (l.map PyData.int) = true := by
    clear h
    induction l with
    | nil => simp [sm60.sm60All]
    | cons x r ih => simp [sm60.sm60All, sm60, ih]
  simp only [tupI, sm60, List.length_map, h2, Bool.and_true, decide_eq_true_eq]
  exact h
theorem sm60_all {ds : List PyData} (h : ∀ d ∈ ds, sm60 d = true) : sm60.sm60All ds = true := by
  induction ds with
  | nil => simp [sm60.sm60All]
  | cons x r ih =>
    simp only [sm60.sm60All, Bool.and_eq_true]
    exact ⟨h x List.mem_cons_self, ih fun d hd => h d (List.mem_cons_of_mem _ hd)⟩
theorem make_sm {n : Int} {ds : List PyData} (h : ds.all (tidyOk n) = true) (h1 : ds.length ≤ 60) (h2 : ∀ d ∈ ds, sm60 d = true) (h3 : ∀ d ∈ ds, smQ d = true) : sm60 (makeD n ds) = true ∧ smQ (makeD n ds) = true := by
  have hrow : ∀ d ∈ (ds.map putD).mergeSort (dataLe false id), sm60 d = true ∧ smQ d = true := fun d hd => by
    obtain ⟨d0, hd0, rfl⟩ := List.mem_map.mp (List.mem_mergeSort.mp hd)
    obtain ⟨x, ns, ms, rfl, _⟩ := tidy_is (List.all_eq_true.mp h d0 hd0)
    rw [put_is]
    have g := (sm60_tup (h2 _ hd0)).2
    have g1 := (sm60_tup (g (tupI ns) (by simp))).1
    have g2 := (sm60_tup (g (tupI ms) (by simp))).1
    rw [List.length_map] at g1 g2
    have y1 := tidyI_len ns
    have y2 := tidyI_len ms
    have gx := (sm3 (h3 _ hd0)).1
    constructor
    · simp only [sm60, sm60.sm60All, sm60_i, List.length_map, List.length_cons, List.length_nil]
      rw [decide_eq_true (show (tidyI ns).length ≤ 60 by omega), decide_eq_true (show (tidyI ms).length ≤ 60 by omega)]
      rfl
    · simp only [smQ, smQAll, sm_ints, List.length_map, List.length_cons, List.length_nil]
      have : decide (x.length ≤ 100000) = true := gx
      rw [this, decide_eq_true (show (tidyI ns).length ≤ 100000 by omega), decide_eq_true (show (tidyI ms).length ≤ 100000 by omega)]
      rfl
  have hl : ((ds.map putD).mergeSort (dataLe false id)).length = ds.length := by rw [List.length_mergeSort, List.length_map]
  constructor
  · show sm60 (.tuple [.int n, .tuple _]) = true
    simp only [sm60, sm60.sm60All, sm60_all fun d hd => (hrow d hd).1, hl, decide_eq_true h1, List.length_cons, List.length_nil]
    rfl
  · show smQ (.tuple [.int n, .tuple _]) = true
    simp only [smQ, smQAll, smAll_of fun d hd => (hrow d hd).2, hl, decide_eq_true (show ds.length ≤ 100000 by omega), List.length_cons, List.length_nil]
    rfl
end K01

set_option Elab.async false
set_option linter.all false
set_option maxRecDepth 100000
set_option maxHeartbeats 4000000
namespace K01
open PySem L2 PySem.KX StX
open PySem.W (AllAlike Sortable dataLe EachIs alike alikeAll)
section
variable {P : Program} {w : World} {K : PySem.W.Frag} {mg : Str → Option Value} {base : Heap}
def spTidied (K : PySem.W.Frag) : Sp := fun vs H Q _ => ∃ (n : Int) (g : Addr) (xs : List V) (ds : List PyData), vs = [.int n, .ref g] ∧ SqT K H g xs ∧ DqAll K H xs ds ∧ ds.length ≤ 60 ∧ (∀ d ∈ ds, sm60 d = true) ∧ (∀ d ∈ ds, smQ d = true) ∧
  ((ds.all (tidyOk n) && netD (makeD n ds)) = false → ∀ H', Same H H' → Q .non H') ∧ ((ds.all (tidyOk n) && netD (makeD n ds)) = true → ∀ (v : V) (H' : Hp), Same H H' → Dq K H' v (makeD n ds) → Q v H')
theorem ok_tidied {f : Addr} {fd : FuncData} (F : Fun K "_law_tidied" "_law_tidied" s_law_tidied f fd) (T : TxtA mg) (S : TxtS mg) (O_law_is_word : Own P w K mg base CX0 "_law_is_word" 1 ["thing"] (spN K isNameD)) (O_law_are_places : Own P w K mg base CX0 "_law_are_places" 2 ["thing", "places"] (spAllIn K))
    (O_law_is_net : Own P w K mg base CX0 "_law_is_net" 3 ["thing"] (spIsNet K)) : FnG P w K mg base CX0 4 f fd ["places", "given"] (spTidied K) := by
  have nd := sc_law_tidied.nd
  refine okG F sc_law_tidied (fun vs H Q E h => ?_) (fun cdv A outer s H vs Q E hr h => ?_)
  · obtain ⟨_, _, _, _, rfl, _⟩ := h
    rfl
  · obtain ⟨n, g, xs, ds, rfl, hg, hds, hn, h60, hsm, k1, k2⟩ := h
    refine ⟨_, (pss_cons (ps_set (i := 2) nd rfl (Or.inl rfl) (pe_lstS pa_nil))
      (pss_cons (ps_for PassesOwn.never rfl (pi_tup (av 1)) (pg_name (i := 3) nd rfl (Or.inl rfl)) (pss_cons (ps_if (PW.pt (pw_or (pt_not (pt_valA (pe_callB call_isiA (by rfl) T.isinstance (by decide +kernel) (pa_cons (av 3) (pa_cons (pe_bltn (v := .ty "tuple") (u := .type "tuple") rfl T.tuple (by decide +kernel) rfl) pa_nil))))) (pw_or (pt_cmpA (op_neA hr.units64) (pe_callB call_lenA (by rfl) T.len PySem.boot_len (pa_cons (av 3) pa_nil)) pe_int) (pw_or1 (pt_not (pt_valA (pe_own O_law_is_word hr (pa_cons (pe_ixA (av 3) pe_int) pa_nil) (by decide)))))))) (pss_one (ps_ret pe_non)) pss_nil)
      (pss_cons (ps_if (PW.pt (pw_or (pt_not (pt_valA (pe_own O_law_are_places hr (pa_cons (pe_ixA (av 3) pe_int) (pa_cons (av 0) pa_nil)) (by decide)))) (pw_or1 (pt_not (pt_valA (pe_own O_law_are_places hr (pa_cons (pe_ixA (av 3) pe_int) (pa_cons (av 0) pa_nil)) (by decide))))))) (pss_one (ps_ret pe_non)) pss_nil)
      (pss_one (ps_expr (pe_appS (av 2) (pe_tupS (pa_cons (pe_ixA (av 3) pe_int) (pa_cons (pe_callTy call_tupLS (by rfl) T.tuple (by decide +kernel) (pa_cons (pe_callB (call_sortTI rfl) (by rfl) S.sorted (by decide +kernel) (pa_cons (pe_callTy (call_setTI rfl) (by rfl) S.set (by decide +kernel) (pa_cons (pe_ixA (av 3) pe_int) pa_nil)) pa_nil)) pa_nil)) (pa_cons (pe_callTy call_tupLS (by rfl) T.tuple (by decide +kernel) (pa_cons (pe_callB (call_sortTI rfl) (by rfl) S.sorted (by decide +kernel) (pa_cons (pe_callTy (call_setTI rfl) (by rfl) S.set (by decide +kernel) (pa_cons (pe_ixA (av 3) pe_int) pa_nil)) pa_nil)) pa_nil)) pa_nil))))))))))
      (pss_cons (ps_set (i := 4) nd rfl (Or.inl rfl) (pe_tupS (pa_cons (av 0) (pa_cons (pe_callTy call_tupLS (by rfl) T.tuple (by decide +kernel) (pa_cons (pe_callB (call_sortedQ hr.units64) (by rfl) S.sorted (by decide +kernel) (pa_cons (av 2) pa_nil)) pa_nil)) pa_nil))))
      (pss_one (ps_ret (pe_ifExp (pt_valA (pe_own O_law_is_net hr (pa_cons (av 4) pa_nil) (by decide))) (av 4) pe_non)))))), ?_⟩
    have hlen := hds.length
    refine ⟨by simp, fun R H1 s1 n1 l1 => ?_⟩
    refine ⟨g, rfl, ⟨_, s1.sqT hg⟩, ?_⟩
    have hfail : ∀ (j : Nat) (d : PyData), ds[j]? = some d → tidyOk n d = false → ∀ H', Same H H' → Q .non H' := fun j d hj hs H' s => by
      refine k1 ?_ H' s
      have e : ds.all (tidyOk n) = false := by
        cases c : ds.all (tidyOk n) with
        | false => rfl
        | true =>
          have := List.all_eq_true.mp c d (List.mem_of_getElem? hj)
          rw [hs] at this
          cases this
      rw [e]
      rfl
    refine for_it (walk_tup (xs := xs)) (fun i σ H' => ∃ (acc : List V) (o3 : Option V), σ = [some (.int n), some (.ref g), some (.ref R), o3, none] ∧ H' R = some (.lst acc) ∧ DqAll K (hide [R] H') acc ((ds.take i).map putD) ∧ Same H H' ∧ ∀ (j : Nat) (d : PyData), j < i → ds[j]? = some d → tidyOk n d = true)
      ⟨[], _, rfl, l1, .nil, s1, fun j _ hj => absurd hj (Nat.not_lt_zero _)⟩ (fun i σ H' _ ⟨_, _, _, _, _, s, _⟩ => s.sqT hg) ?_ ?_
    · rintro i z σ H2 H3 hi ⟨acc, o3, rfl, hR, hacc, s2, hyes⟩ ⟨rfl, hz⟩
      obtain ⟨d, h1, h2⟩ := hds.get hz
      have hd2 := Dq.same s2 _ _ h2
      have hdm : d ∈ ds := List.mem_of_getElem? h1
      refine ⟨_, _, _, _, _, rfl, .ty _, hd2.ty, kit_ty (kit_tuple d), ?_⟩
      cases hb3 : isTupB d with
      | false =>
        have e : tidyOk n d = false := by cases d <;> first | rfl | cases hb3
        refine (iteT (iteT (hfail i d h1 e _ s2)) : if true = true then _ else _)
      | true =>
        refine iteF ?_
        cases hd2 with
        | @tup q zs gs hzq hza =>
          have hlen3 := hza.length
          refine .inr ⟨zs, hzq, ?_⟩
          by_cases h3 : gs.length = 3
          · have c : (!decide ((zs.length : Int) = 3)) = false := by rw [decide_eq_true (by omega)]; rfl
            show (if (!decide ((zs.length : Int) = 3)) = true then _ else _)
            rw [c]
            obtain ⟨ga, gb, gc, rfl⟩ := len3 h3
            obtain ⟨za, zb, zc, rfl, hga, hgb, hgc⟩ := dq3 hza
            obtain ⟨w1, w2, w3⟩ := sm3 (hsm _ hdm)
            have p60 := (sm60_tup (h60 _ hdm)).2
            have et : tidyOk n (.tuple [ga, gb, gc]) = (isNameD ga && (allIn n gb && allIn n gc)) := rfl
            refine iteF (.inr ⟨_, za, hzq, rfl, ?_⟩)
            refine ⟨za, ga, rfl, ⟨hga, w1⟩, fun H4 s4 => ?_⟩
            cases c3 : isNameD ga with
            | false => refine (iteT (hfail i _ h1 (by rw [et, c3]; rfl) _ (s2.trans s4)) : if true = true then _ else _)
            | true =>
              refine iteF (.inr ⟨_, zb, s4.sqT hzq, rfl, ?_⟩)
              refine ⟨zb, gb, n, rfl, ⟨Dq.same s4 _ _ hgb, w2⟩, fun H5 s5 => ?_⟩
              cases c4 : allIn n gb with
              | false => refine (iteT (iteT (hfail i _ h1 (by rw [et, c3, c4]; rfl) _ ((s2.trans s4).trans s5))) : if true = true then _ else _)
              | true =>
                have s35 := s4.trans s5
                refine iteF (.inr ⟨_, zc, s35.sqT hzq, rfl, ?_⟩)
                refine ⟨zc, gc, n, rfl, ⟨Dq.same s35 _ _ hgc, w3⟩, fun H6 s6 => ?_⟩
                have s36 := s35.trans s6
                cases c5 : allIn n gc with
                | false => refine (iteT (hfail i _ h1 (by rw [et, c3, c4, c5]; rfl) _ (s2.trans s36)) : if true = true then _ else _)
                | true =>
                  obtain ⟨ns, rfl, _⟩ := allIn_is c4
                  obtain ⟨ms, rfl, _⟩ := allIn_is c5
                  have l1 := (sm60_tup (p60 (tupI ns) (by simp))).1
                  have l2 := (sm60_tup (p60 (tupI ms) (by simp))).1
                  rw [List.length_map] at l1 l2
                  cases ga with
                  | str x =>
                    cases hga
                    cases hgb with
                    | @tup qb ub _ hqb hub =>
                      have := dq_ints hub
                      subst this
                      cases hgc with
                      | @tup qc uc _ hqc huc =>
                        have := dq_ints huc
                        subst this
                        have hR6 := s36 _ _ hR
                        refine iteF ⟨R, acc, rfl, hR6, ?_⟩
                        refine .inr ⟨_, .str x, s36.sqT hzq, rfl, ?_⟩
                        refine .inr ⟨_, .ref qb, s36.sqT hzq, rfl, ?_⟩
                        refine ⟨qb, ns, rfl, s36.sqT hqb, l1, fun p10 c10 H10 s10 n10 e10 hc10 => ?_⟩
                        refine ⟨p10, _, c10, rfl, e10, by omega, fun ms0 p11 H11 asc0 mem0 len0 s11 n11 l11 => ?_⟩
                        refine ⟨p11, _, rfl, SqL.of l11, fun p12 H12 s12 n12 l12 => ?_⟩
                        have s612 := (s10.trans s11).trans s12
                        have s312 := s36.trans s612
                        refine .inr ⟨_, .ref qc, s312.sqT hzq, rfl, ?_⟩
                        refine ⟨qc, ms, rfl, s312.sqT hqc, l2, fun p13 c13 H13 s13 n13 e13 hc13 => ?_⟩
                        refine ⟨p13, _, c13, rfl, e13, by omega, fun ms1 p14 H14 asc1 mem1 len1 s14 n14 l14 => ?_⟩
                        refine ⟨p14, _, rfl, SqL.of l14, fun p15 H15 s15 n15 l15 => ?_⟩
                        refine ⟨by simp, fun p16 H16 s16 n16 l16 => ?_⟩
                        have s1216 := ((s13.trans s14).trans s15).trans s16
                        have s316 := s312.trans s1216
                        have hal := hacc.length
                        refine ⟨acc, s316 _ _ hR, by simp only [List.length_map, List.length_take] at hal; omega, ?_⟩
                        have neR : ∀ {H' : Hp} {b : Addr}, Same H3 H' → H' b = none → b ≠ R := fun {H' b} s e z => by
                          rw [z, s _ _ hR] at e
                          cases e
                        have hid : ∀ {H' : Hp} {b : Addr} {o : HO}, b ≠ R → H' b = some o → hide [R] H' b = some o := fun {H' b o} hb e => by
                          rw [hide_in (fun z => hb (List.mem_singleton.mp z))]
                          exact e
                        have t0 : ms0 = tidyI ns := Tidy.eq (ns := ns) ⟨asc0, fun k => (mem0 k).trans decide_eq_true_iff⟩ (tidyI_ok ns)
                        have t1 : ms1 = tidyI ms := Tidy.eq (ns := ms) ⟨asc1, fun k => (mem1 k).trans decide_eq_true_iff⟩ (tidyI_ok ms)
                        subst t0
                        subst t1
                        have hrow : Dq K (hide [R] H16) (.ref p16) (putD (.tuple [.str x, tupI ns, tupI ms])) := by
                          rw [put_is]
                          exact row_dq (hid (neR (((s312.trans s13).trans s14).trans s15) n16) l16) (hid (neR ((s36.trans s10).trans s11) n12) (s1216 _ _ l12)) (hid (neR ((s312.trans s13).trans s14) n15) (s16 _ _ l15))
                        refine ⟨acc ++ [.ref p16], _, rfl, upd_same, ?_, fun b o e => ?_, fun j d hj hj2 => ?_⟩
                        · rw [hide_upd, List.take_add_one, h1, List.map_append]
                          exact dqAll_snoc (DqAll.same (hide_same s316) _ _ hacc) hrow
                        · rw [upd_ne (ne_of_none e n1)]
                          exact s316 _ _ (s2 _ _ e)
                        · by_cases e : j = i
                          · subst e
                            rw [h1] at hj2
                            cases hj2
                            rw [et, c3, c4, c5]
                            rfl
                          · exact hyes j d (by omega) hj2
                  | _ => cases c3
          · have c : (!decide ((zs.length : Int) = 3)) = true := by rw [decide_eq_false (by omega)]; rfl
            show (if (!decide ((zs.length : Int) = 3)) = true then _ else _)
            rw [c]
            exact iteT (iteT (hfail i _ h1 (tidy3 h3) _ s2))
        | _ => cases hb3
    · rintro σ H2 ⟨acc, o3, rfl, hR, hacc, s2, hyes⟩
      have hall : ds.all (tidyOk n) = true := List.all_eq_true.mpr fun d hd => by
        obtain ⟨j, hj⟩ := List.getElem?_of_mem hd
        have hj' := (List.getElem?_eq_some_iff.mp hj).1
        exact hyes j d (by omega) hj
      rw [hall, Bool.true_and] at k1 k2
      rw [hlen, List.take_length] at hacc
      have hP : ∀ d ∈ ds.map putD, ∃ x ns ms, d = .tuple [.str x, tupI ns, tupI ms] := fun d hd => by
        obtain ⟨d0, h0, rfl⟩ := List.mem_map.mp hd
        obtain ⟨x, ns, ms, rfl, _⟩ := tidy_is (List.all_eq_true.mp hall d0 h0)
        exact ⟨x, _, _, put_is _ _ _⟩
      have hacc2 := DqAll.same hide_sub _ _ hacc
      refine ⟨R, acc, ds.map putD, rfl, SqL.of hR, hacc2, fun d hd d' hd' => ?_, .inl fun d hd => ?_, by simp; omega, fun d hd => ?_, fun p9 H9 s9 n9 l9 => ?_⟩
      · obtain ⟨x, ns, ms, rfl⟩ := hP d hd
        obtain ⟨x', ns', ms', rfl⟩ := hP d' hd'
        exact alike_rows _ _ _ _ _ _
      · obtain ⟨x, ns, ms, rfl⟩ := hP d hd
        exact ⟨_, _, rfl⟩
      · obtain ⟨x, ns, ms, rfl⟩ := hP d hd
        exact depth_row _ _ _
      · refine ⟨p9, _, rfl, SqL.of l9, fun p10 H10 s10 n10 l10 => ?_⟩
        refine ⟨by simp, fun p11 H11 s11 n11 l11 => ?_⟩
        have s211 := (s9.trans s10).trans s11
        have hnet : Dq K H11 (.ref p11) (makeD n ds) := .tup (SqT.of l11) (.cons (.int n) (.cons (.tup (SqT.of (s11 _ _ l10)) (sortQ_dq (DqAll.same s211 _ _ hacc2))) .nil))
        obtain ⟨m1, m2⟩ := make_sm hall hn h60 hsm
        refine ⟨.ref p11, makeD n ds, rfl, ⟨hnet, m2⟩, m1, fun H12 s12 => ?_⟩
        have sE := (s2.trans s211).trans s12
        cases c : netD (makeD n ds) with
        | false => refine (iteF (k1 c _ sE) : if false = true then _ else _)
        | true => refine (iteT (k2 c _ _ sE (Dq.same s12 _ _ hnet)) : if true = true then _ else _)
end
end K01

set_option Elab.async false
set_option linter.all false
set_option maxRecDepth 100000
set_option maxHeartbeats 4000000
namespace K01
open PySem L2 PySem.KX StX
abbrev s_law_made : Stmt := top 42
theorem sc_law_made : FnScope ["places", "given"] ["places", "given"] (defScope s_law_made) := ⟨rfl, rfl, rfl, by decide +kernel, rfl, by decide +kernel, by decide +kernel⟩
/-- make_net, as a caller knows it -/
def spMkR (K : PySem.W.Frag) (cN cI : Addr) : Sp := fun vs H Q E => ∃ ws rest, vs = ws ++ rest ∧ ws.length = 1 ∧ rest.length ≤ sizeLine ∧ ∀ p, H p = none → spMk K cN cI (ws ++ [V.ref p]) (upd H p (.tup rest)) Q E
structure OwnR (P : Program) (w : World) (K : PySem.W.Frag) (mg : Str → Option Value) (base : Heap) (CX : CXT) (x : Str) (k : Nat) (sp : Sp) : Prop where
  ex : ∃ f, FnRG P w K mg base CX k f sp ∧ mg x = some (.ref f) ∧ PySem.W.keepIn K (.ref f) = true
section
variable {P : Program} {w : World} {K : PySem.W.Frag} {mg : Str → Option Value} {base : Heap}
/-- what make_net hands back or raises, from places v and steps xs -/
structure MkQ (K : PySem.W.Frag) (cN cI : Addr) (H : Hp) (Q : VK) (E : XK) (dp : PyData) (ds : List PyData) : Prop where
  few : ds.length ≤ 100
  sm : smQAll ds = true
  sz : ∀ (i : Nat) (x : Str) (ns ms : List Int), ds[i]? = some (.tuple [.str x, tupI ns, tupI ms]) → ns.length ≤ 60 ∧ ms.length ≤ 60 ∧ x.length ≤ 1000
  k1 : intIn 2 30 dp = false → ∀ (dx : Addr) (v' : V) (H' : Hp), Same H H' → H dx = none → H' dx = some (.xd [("value", v')]) → Dq K H' v' dp → E (.ref cN) (some dx) H'
  k2 : intIn 2 30 dp = true → ds.all canD = false → ∀ H', Same H H' → E (.ref cI) none H'
  k3 : ∀ n : Int, dp = .int n → intIn 2 30 dp = true → ds.all canD = true → netD (makeD n ds) = false → ∀ H', Same H H' → E (.ref cI) none H'
  k4 : ∀ n : Int, dp = .int n → intIn 2 30 dp = true → ds.all canD = true → netD (makeD n ds) = true → ∀ (r : V) (H' : Hp), Same H H' → Dq K H' r (makeD n ds) → Q r H'
theorem mk_use {cN cI : Addr} {H : Hp} {Q : VK} {E : XK} {v : V} {dp : PyData} {xs : List V} {ds : List PyData} (hv : Wd K H v dp) (hd : dp.depth ≤ 10) (hds : DqAll K H xs ds) (q : MkQ K cN cI H Q E dp ds) : spMkR K cN cI (v :: xs) H Q E := by
  have hl := hds.length
  have := q.few
  refine ⟨[v], xs, rfl, rfl, by rw [sizeLine_eq]; omega, fun p np => ?_⟩
  have s : Same H (upd H p (.tup xs)) := (Same.refl _).new np
  have lp : upd H p (.tup xs) p = some (.tup xs) := upd_same
  generalize upd H p (.tup xs) = H1 at s lp
  refine ⟨v, p, dp, xs, ds, rfl, hv.same s, hd, SqT.of lp, DqAll.same s _ _ hds, q.few, q.sm, q.sz, ?_, ?_, ?_⟩
  · intro c dx v' H' s2 n2 e2 h2
    exact q.k1 c dx v' H' (s.trans s2) (s.free n2) e2 h2
  · intro c1 c2 H' s2
    exact q.k2 c1 c2 H' (s.trans s2)
  · intro n e c1 c2
    exact ⟨fun c3 H' s2 => q.k3 n e c1 c2 c3 H' (s.trans s2), fun c3 r H' s2 h2 => q.k4 n e c1 c2 c3 r H' (s.trans s2) h2⟩
def spMade (K : PySem.W.Frag) (cN cI : Addr) : Sp := fun vs H Q E => ∃ (v : V) (g : Addr) (dp : PyData) (xs : List V) (ds : List PyData), vs = [v, .ref g] ∧ Wd K H v dp ∧ dp.depth ≤ 10 ∧ SqT K H g xs ∧ DqAll K H xs ds ∧ ds.length ≤ 6 ∧ MkQ K cN cI H Q E dp ds
theorem MkQ.same {cN cI : Addr} {H H2 : Hp} {Q : VK} {E : XK} {dp : PyData} {ds : List PyData} (q : MkQ K cN cI H Q E dp ds) (s : Same H H2) : MkQ K cN cI H2 Q E dp ds :=
  ⟨q.few, q.sm, q.sz, fun c dx v' H' s2 n2 e2 h2 => q.k1 c dx v' H' (s.trans s2) (s.free n2) e2 h2, fun c1 c2 H' s2 => q.k2 c1 c2 H' (s.trans s2), fun n e c1 c2 c3 H' s2 => q.k3 n e c1 c2 c3 H' (s.trans s2), fun n e c1 c2 c3 r H' s2 h2 => q.k4 n e c1 c2 c3 r H' (s.trans s2) h2⟩
theorem ok_made {f cN cI : Addr} {fd : FuncData} (F : Fun K "_law_made" "_law_made" s_law_made f fd) (T : TxtA mg) (Om : OwnR P w K mg base (L2.CX P w) "make_net" 14 (spMkR K cN cI)) : FnG P w K mg base (L2.CX P w) 15 f fd ["places", "given"] (spMade K cN cI) := by
  have nd := sc_law_made.nd
  obtain ⟨fm, Fm, Gm, Km⟩ := Om.ex
  refine okGX F sc_law_made (fun vs H Q E h => ?_) (fun cdv A outer s H vs Q E hr h => ?_)
  · obtain ⟨_, _, _, _, _, rfl, _⟩ := h
    rfl
  · obtain ⟨v, g, dp, xs, ds, rfl, hv, hd, hg, hds, hn, q⟩ := h
    refine ⟨_, (pss_cons (ps_if (pt_cmpA op_ltA (pe_callB call_lenA (by rfl) T.len PySem.boot_len (pa_cons (av 1) pa_nil)) pe_int) (pss_one (ps_ret (pe_ifExp (pt_cmpA (op_eqNil hr.units64) (av 1) (pe_tupS pa_nil)) (pe_callRG Fm hr Km rfl Gm passE (pa_cons (av 0) pa_nil)) (pe_callRG Fm hr Km rfl Gm passE (pa_cons (av 0) (pa_cons (pe_ixA (av 1) pe_int) pa_nil)))))) pss_nil)
      (pss_cons (ps_if (pt_cmpA (op_eqA hr.units64) (pe_callB call_lenA (by rfl) T.len PySem.boot_len (pa_cons (av 1) pa_nil)) pe_int) (pss_one (ps_ret (pe_callRG Fm hr Km rfl Gm passE (pa_cons (av 0) (pa_cons (pe_ixA (av 1) pe_int) (pa_cons (pe_ixA (av 1) pe_int) pa_nil)))))) pss_nil)
      (pss_cons (ps_if (pt_cmpA (op_eqA hr.units64) (pe_callB call_lenA (by rfl) T.len PySem.boot_len (pa_cons (av 1) pa_nil)) pe_int) (pss_one (ps_ret (pe_callRG Fm hr Km rfl Gm passE (pa_cons (av 0) (pa_cons (pe_ixA (av 1) pe_int) (pa_cons (pe_ixA (av 1) pe_int) (pa_cons (pe_ixA (av 1) pe_int) pa_nil))))))) pss_nil)
      (pss_cons (ps_if (pt_cmpA (op_eqA hr.units64) (pe_callB call_lenA (by rfl) T.len PySem.boot_len (pa_cons (av 1) pa_nil)) pe_int) (pss_one (ps_ret (pe_callRG Fm hr Km rfl Gm passE (pa_cons (av 0) (pa_cons (pe_ixA (av 1) pe_int) (pa_cons (pe_ixA (av 1) pe_int) (pa_cons (pe_ixA (av 1) pe_int) (pa_cons (pe_ixA (av 1) pe_int) pa_nil)))))))) pss_nil)
      (pss_cons (ps_if (pt_cmpA (op_eqA hr.units64) (pe_callB call_lenA (by rfl) T.len PySem.boot_len (pa_cons (av 1) pa_nil)) pe_int) (pss_one (ps_ret (pe_callRG Fm hr Km rfl Gm passE (pa_cons (av 0) (pa_cons (pe_ixA (av 1) pe_int) (pa_cons (pe_ixA (av 1) pe_int) (pa_cons (pe_ixA (av 1) pe_int) (pa_cons (pe_ixA (av 1) pe_int) (pa_cons (pe_ixA (av 1) pe_int) pa_nil))))))))) pss_nil)
      (pss_one (ps_ret (pe_callRG Fm hr Km rfl Gm passE (pa_cons (av 0) (pa_cons (pe_ixA (av 1) pe_int) (pa_cons (pe_ixA (av 1) pe_int) (pa_cons (pe_ixA (av 1) pe_int) (pa_cons (pe_ixA (av 1) pe_int) (pa_cons (pe_ixA (av 1) pe_int) (pa_cons (pe_ixA (av 1) pe_int) pa_nil))))))))))))))), ?_⟩
    have hlen := hds.length
    refine .inr ⟨xs, hg, ?_⟩
    match xs, hlen with
    | [], hlen =>
      refine ⟨by simp, fun p H1 s1 n1 l1 => ?_⟩
      refine ⟨p, .tuple ds, rfl, SqT.of l1, .tup (s1.sqT hg) (DqAll.same s1 _ _ hds), ?_⟩
      have e : ds = [] := List.length_eq_zero_iff.mp (by rw [← hlen]; rfl)
      subst e
      exact mk_use (hv.same s1) hd (DqAll.same s1 _ _ hds) (q.same s1)
    | [x0], hlen =>
      refine ⟨by simp, fun p H1 s1 n1 l1 => ?_⟩
      refine ⟨p, .tuple ds, rfl, SqT.of l1, .tup (s1.sqT hg) (DqAll.same s1 _ _ hds), ?_⟩
      obtain ⟨d0, rfl⟩ : ∃ d0, ds = [d0] := List.length_eq_one_iff.mp (by rw [← hlen]; rfl)
      refine .inr ⟨_, x0, s1.sqT hg, rfl, ?_⟩
      exact mk_use (hv.same s1) hd (DqAll.same s1 _ _ hds) (q.same s1)
    | [x0, x1], hlen =>
      refine .inr ⟨_, hg, ?_⟩
      refine .inr ⟨_, x0, hg, rfl, ?_⟩
      refine .inr ⟨_, x1, hg, rfl, ?_⟩
      exact mk_use hv hd hds q
    | [x0, x1, x2], hlen =>
      refine .inr ⟨_, hg, ?_⟩
      refine .inr ⟨_, hg, ?_⟩
      refine .inr ⟨_, x0, hg, rfl, ?_⟩
      refine .inr ⟨_, x1, hg, rfl, ?_⟩
      refine .inr ⟨_, x2, hg, rfl, ?_⟩
      exact mk_use hv hd hds q
    | [x0, x1, x2, x3], hlen =>
      refine .inr ⟨_, hg, ?_⟩
      refine .inr ⟨_, hg, ?_⟩
      refine .inr ⟨_, hg, ?_⟩
      refine .inr ⟨_, x0, hg, rfl, ?_⟩
      refine .inr ⟨_, x1, hg, rfl, ?_⟩
      refine .inr ⟨_, x2, hg, rfl, ?_⟩
      refine .inr ⟨_, x3, hg, rfl, ?_⟩
      exact mk_use hv hd hds q
    | [x0, x1, x2, x3, x4], hlen =>
      refine .inr ⟨_, hg, ?_⟩
      refine .inr ⟨_, hg, ?_⟩
      refine .inr ⟨_, hg, ?_⟩
      refine .inr ⟨_, hg, ?_⟩
      refine .inr ⟨_, x0, hg, rfl, ?_⟩
      refine .inr ⟨_, x1, hg, rfl, ?_⟩
      refine .inr ⟨_, x2, hg, rfl, ?_⟩
      refine .inr ⟨_, x3, hg, rfl, ?_⟩
      refine .inr ⟨_, x4, hg, rfl, ?_⟩
      exact mk_use hv hd hds q
    | [x0, x1, x2, x3, x4, x5], hlen =>
      refine .inr ⟨_, hg, ?_⟩
      refine .inr ⟨_, hg, ?_⟩
      refine .inr ⟨_, hg, ?_⟩
      refine .inr ⟨_, hg, ?_⟩
      refine .inr ⟨_, x0, hg, rfl, ?_⟩
      refine .inr ⟨_, x1, hg, rfl, ?_⟩
      refine .inr ⟨_, x2, hg, rfl, ?_⟩
      refine .inr ⟨_, x3, hg, rfl, ?_⟩
      refine .inr ⟨_, x4, hg, rfl, ?_⟩
      refine .inr ⟨_, x5, hg, rfl, ?_⟩
      exact mk_use hv hd hds q
    | _ :: _ :: _ :: _ :: _ :: _ :: _ :: _, hlen =>
      simp at hlen
      omega
end
end K01

set_option Elab.async false
set_option linter.all false
set_option maxRecDepth 100000
set_option maxHeartbeats 4000000
namespace K01
open PySem L2 PySem.KX StX
abbrev s_law_bent : Stmt := top 39
theorem sc_law_bent : FnScope ["dice", "thing", "deep", "some", "at"] ["dice", "thing", "deep"] (defScope s_law_bent) := ⟨rfl, rfl, rfl, by decide +kernel, rfl, by decide +kernel, by decide +kernel⟩
theorem big_le {k : Nat} (hk : k ≤ 8) {i : Int} (h : i.natAbs ≤ (k + 1) * bigN) : i.natAbs < 10 ^ 31 := Nat.lt_of_le_of_lt (Nat.le_trans h (Nat.mul_le_mul_right bigN (show k + 1 ≤ 9 by omega))) (by decide +kernel)
theorem weight_int {i : Int} (h : i.natAbs < 10 ^ 31) : PyData.weight (.int i) ≤ 200 := by
  simp only [PyData.weight]
  split
  · omega
  · by_cases h0 : i.natAbs = 0
    · rw [h0]; decide +kernel
    · have : i.natAbs < 2 ^ 199 := Nat.lt_of_lt_of_le h (by decide +kernel)
      have := (Nat.log2_lt h0).mpr this
      omega
theorem md_int {k W D : Nat} (hk : k ≤ 7) {i : Int} (h : i.natAbs ≤ (k + 2) * bigN) : Md (k + 1) (2 * W + 1000) (D + 1) (.int i) := by
  refine ⟨by simp only [okB, decide_eq_true_eq]; exact h, ?_, by simp [PyData.depth]⟩
  have := weight_int (big_le (k := k + 1) (by omega) h)
  omega
theorem md_str {k W D : Nat} (hk : k ≤ 7) {x : Str} (h : x.length ≤ 40 * (k + 2)) (ha : ∀ c ∈ x.cps.toList, c < 128) : Md (k + 1) (2 * W + 1000) (D + 1) (.str x) := by
  refine ⟨?_, ?_, by simp [PyData.depth]⟩
  · simp only [okB, Bool.and_eq_true, decide_eq_true_eq]
    exact ⟨h, List.all_eq_true.mpr fun c hc => decide_eq_true (ha c hc)⟩
  · simp only [PyData.weight]
    have : x.cps.size = x.length := rfl
    omega
theorem md_non {k W D : Nat} : Md (k + 1) (2 * W + 1000) (D + 1) .none := ⟨by simp [okB], by simp [PyData.weight], by simp [PyData.depth]⟩
theorem md_bool {k W D : Nat} {b : Bool} : Md (k + 1) (2 * W + 1000) (D + 1) (.bool b) := ⟨by simp [okB], by simp [PyData.weight], by simp [PyData.depth]⟩
theorem md_emp {k W D : Nat} : Md (k + 1) (2 * W + 1000) (D + 1) (.dict []) := ⟨by simp [okB], by simp [PyData.weight, PyData.weightKv], by simp [PyData.depth, PyData.depthKv]⟩
theorem md_unit {k W D : Nat} : Md (k + 1) (2 * W + 1000) (D + 1) (.tuple []) := ⟨by simp [okB, okBAll], by simp [PyData.weight, PyData.weightAll], by simp [PyData.depth, PyData.depthAll]⟩
theorem md_one {k W D : Nat} {d : PyData} (h : Md k W D d) : Md (k + 1) (2 * W + 1000) (D + 1) (.tuple [d]) ∧ Md (k + 1) (2 * W + 1000) (D + 1) (.list [d]) := by
  have h1 := h.wt
  have h2 := h.dp
  constructor
  · refine Md.tup (by simp; omega) (fun e he => by rw [List.mem_singleton.mp he]; exact okB_up _ h.ok) (by simp only [PyData.weightAll]; omega) (fun e he => by rw [List.mem_singleton.mp he]; omega) (by omega)
  · refine Md.lst (by simp; omega) (fun e he => by rw [List.mem_singleton.mp he]; exact okB_up _ h.ok) (by simp only [PyData.weightAll]; omega) (fun e he => by rw [List.mem_singleton.mp he]; omega) (by omega)
theorem abs_add {k : Nat} {a j : Int} (h : a.natAbs ≤ (k + 1) * bigN) (hj : j.natAbs ≤ bigN) : (a + j).natAbs ≤ (k + 2) * bigN := by
  have e : (k + 2) * bigN = (k + 1) * bigN + bigN := by rw [show k + 2 = (k + 1) + 1 from rfl, Nat.succ_mul]
  rw [e]
  generalize (k + 1) * bigN = A at h
  omega
theorem int_text {i : Int} (h : i.natAbs < 10 ^ 31) : (Str.ofString (toString i)).length ≤ 40 ∧ ∀ c ∈ (Str.ofString (toString i)).cps.toList, c < 128 := by
  refine ⟨?_, ?_⟩
  · have e := int_text_length_le10 (k := 31) (by decide) h
    rw [PySem.ofString_length]
    omega
  · intro c hc
    have h2 := PySem.int_ascii i
    have e : (Str.ofString (toString i)).cps.toList = (toString i).toList.map Char.toNat := by
      rw [PySem.Str.ofString_eq_toList]
    rw [e] at hc
    obtain ⟨ch, h3, rfl⟩ := List.mem_map.mp hc
    exact h2 ch h3
/-- str(x), x an int or a bool: a short plain text -/
def rStrM : List V → Hp → VK → Prop := fun xs H Q => ∃ (x : V) (a : Int), xs = [x] ∧ numV x = some a ∧ a.natAbs < 10 ^ 31 ∧ ∀ y : Str, y.length ≤ 40 → (∀ c ∈ y.cps.toList, c < 128) → Q (.str y) H
theorem call_strM {X : Cx} : CallR X (.type "str") rStrM := call_strN.imp fun xs H Q ⟨x, a, e, hv, h31, k⟩ => by
  refine ⟨x, a, e, hv, ?_, fun i hi => ?_, fun b hb => ?_⟩
  · have : a.natAbs < 2 ^ 1920 := Nat.lt_of_lt_of_le h31 (by decide +kernel)
    by_cases h0 : a.natAbs = 0
    · rw [h0]; decide +kernel
    · exact (Nat.log2_lt h0).mpr this
  · subst hi
    cases hv
    obtain ⟨h1, h2⟩ := int_text h31
    exact k _ h1 h2
  · cases b
    · exact k _ (by decide +kernel) (by decide +kernel)
    · exact k _ (by decide +kernel) (by decide +kernel)
section
variable {P : Program} {w : World} {K : PySem.W.Frag} {mg : Str → Option Value} {base : Heap}
/-- anything else, near the thing; nothing changes but the dice -/
def spBent (K : PySem.W.Frag) (n : Nat) : Sp := fun vs H Q _ => ∃ (p : Addr) (v : V) (d : PyData) (m : Int) (k W D : Nat), vs = [.ref p, v, .int (n : Nat)] ∧ Dc p m H ∧ m + 3 * (n : Int) + 1000 < 2 ^ 30 ∧ Dn K (hide [p] H) v d ∧ Md k W D d ∧ k ≤ 7 ∧ n ≤ 20 ∧
  ∀ (v' : V) (d' : PyData) (H' : Hp), Nxt p H H' → Dc p (m + 3 * n + 3) H' → Dn K (hide [p] H') v' d' → Md (k + 1) (2 * W + 1000) (D + 1) d' → Q v' H'
/-- the row of things to draw from -/
def Some' (K : PySem.W.Frag) (p : Addr) (H : Hp) (m : Int) (k W D : Nat) (S : Addr) (H' : Hp) : Prop := ∃ (items : List V) (ds : List PyData), H' S = some (.lst items) ∧ S ≠ p ∧ DnAll K (hide [p] H') items ds ∧ (∀ d ∈ ds, Md (k + 1) (2 * W + 1000) (D + 1) d) ∧ 0 < items.length ∧ items.length < 1000 ∧ Nxt p H H' ∧ Dc p m H'
theorem some_pick {p S : Addr} {H H' : Hp} {m m' : Int} {k W D : Nat} {Q : VK} {E : XK} (h : Some' K p H m k W D S H') (hm : m < 2 ^ 30) (hm' : m + 1 ≤ m')
    (q : ∀ (v' : V) (d' : PyData) (H' : Hp), Nxt p H H' → Dc p m' H' → Dn K (hide [p] H') v' d' → Md (k + 1) (2 * W + 1000) (D + 1) d' → Q v' H') : spOneD [.ref p, .ref S] H' Q E := by
  obtain ⟨items, ds, hS, ne, hd, hmd, l0, l1, nx, dc⟩ := h
  refine ⟨p, S, m, items, rfl, dc, hS, hm, ne, l0, l1, fun i v H2 hi dc2 e2 => ?_⟩
  obtain ⟨d, h1, h2⟩ := hd.get hi
  exact q v d H2 (nx.trans (Nxt.of_eq e2)) (dc2.mono hm') (Dn.same (Nxt.of_eq e2) _ _ h2) (hmd d (List.mem_of_getElem? h1))
theorem hid_of {p b : Addr} {H : Hp} {o : HO} (hb : b ≠ p) (e : H b = some o) : hide [p] H b = some o := by
  rw [hide_in (fun z => hb (List.mem_singleton.mp z))]
  exact e
theorem bent_num {f : Addr} {fd : FuncData} {n : Nat} {cdv : Value} {A : Around} {outer : List Env} {s : Shared} {H : Hp} {Q : VK} {E : XK} {p : Addr} {v : V} {d : PyData} {m a : Int} {k W D : Nat} (T : TxtA mg) (O_one : Own P w K mg base CX0 "_law_one_of" 2 ["dice", "items"] spOneD)
    (hr : RoomG 2 (A.deeper (PyProof.Rows.envOfC "_law_bent" (defScope s_law_bent) s.heap.objs.size f cdv))) (hp : Dc p m H) (hm : m + 1000 < 2 ^ 30) (hd : Dn K (hide [p] H) v d) (hmd : Md k W D d) (hk : k ≤ 7) (hv : numV v = some a) (ha : a.natAbs ≤ (k + 1) * bigN) (hty : kitB (tyOfD d) "int" = some true)
    (q : ∀ (v' : V) (d' : PyData) (H' : Hp), Nxt p H H' → Dc p (m + 3 * n + 3) H' → Dn K (hide [p] H') v' d' → Md (k + 1) (2 * W + 1000) (D + 1) d' → Q v' H') :
    ∃ t, PSs (cxOf CX0 P w K mg base ["dice", "thing", "deep", "some", "at"] "_law_bent" (defScope s_law_bent) f cdv A outer s H E).nox (defBody s_law_bent) t ∧ t { nx := fun _ H' => Q .non H', rt := Q } (start ["dice", "thing", "deep", "some", "at"] [.ref p, v, .int (n : Nat)]) H := by
  have nd := sc_law_bent.nd
  refine ⟨_, (pss_cut (ps_if (pt_valA (pe_callB call_isiA (by rfl) T.isinstance (by decide +kernel) (pa_cons (av 1) (pa_cons (pe_bltn (v := .ty "int") (u := .type "int") rfl T.int (by decide +kernel) rfl) pa_nil)))) (pss_one (ps_set (i := 3) nd rfl (Or.inl rfl) (pe_lstS (pa_cons (pe_op op_addB (av 1) pe_int) (pa_cons (pe_op op_subB (av 1) pe_int) (pa_cons (pe_callTy call_boolN (by rfl) T.bool (by decide +kernel) (pa_cons (av 1) pa_nil)) (pa_cons pe_non (pa_cons (pe_op op_subR pe_int (av 1)) (pa_cons (pe_callTy call_strM (by rfl) T.str (by decide +kernel) (pa_cons (av 1) pa_nil)) (pa_cons (pe_op op_addB (av 1) (pe_op op_powA pe_int pe_int)) (pa_cons (pe_lstN (pa_cons (av 1) pa_nil)) (pa_cons (pe_tupS (pa_cons (av 1) pa_nil)) (pa_cons pe_dnewK pa_nil))))))))))))) pss_never)
      (pss_one (ps_ret (pe_own O_one hr (pa_cons (av 0) (pa_cons (av 3) pa_nil)) (by decide))))), ?_⟩
  have hd1 := Dn.same hide_sub _ _ hd
  refine ⟨fun σ H' => ∃ S, σ = [some (.ref p), some v, some (.int (n : Nat)), some (.ref S), none] ∧ Some' K p H m k W D S H', ?_, ?_⟩
  · refine ⟨_, _, _, _, true, rfl, .ty _, (Dn.dq _ _ hd1).ty, kit_ty hty, ?_⟩
    refine iteT ?_
    refine ⟨a, 1, hv, rfl, a, 1, hv, rfl, v, a, rfl, hv, fun b => ?_⟩
    have h31 := big_le (k := k) (by omega) ha
    refine ⟨a, 0, rfl, hv, v, a, rfl, hv, h31, fun y hy1 hy2 => ?_⟩
    refine ⟨pow_ok (by decide) (by decide) (by decide) (by decide), a, _, hv, rfl, ?_⟩
    refine ⟨by simp, fun L1 H1 b1 s1 n1 l1 => ?_⟩
    refine ⟨by simp, fun T1 H2 s2 n2 l2 => ?_⟩
    intro D1 nD
    have s3 : Same H2 (upd H2 D1 (.dK [])) := (Same.refl _).new nD
    have l3 : upd H2 D1 (.dK []) D1 = some (.dK []) := upd_same
    generalize upd H2 D1 (.dK []) = H3 at s3 l3
    refine ⟨by simp, fun S H4 s4 n4 l4 => ?_⟩
    have hL := hp.ne n1
    have hT := (hp.same s1).ne n2
    have hD := (hp.same (s1.trans s2)).ne nD
    have hS := (hp.same ((s1.trans s2).trans s3)).ne n4
    have s24 := (s2.trans s3).trans s4
    have s14 := s1.trans s24
    have hd4 := Dn.same (Nxt.of s14 : Nxt p H H4) _ _ hd
    refine ⟨S, rfl, _, [.int (a + 1), .int (a - 1), .bool b, .none, .int (0 - a), .str y, .int (a + 10 ^ Int.toNat 30), .list [d], .tuple [d], .dict []], l4, hS, ?_, ?_, by simp, by simp, Nxt.of s14, hp.same s14⟩
    · exact .cons (.int _) (.cons (.int _) (.cons (.bl _) (.cons .non (.cons (.int _) (.cons (.str _) (.cons (.int _) (.cons (.lst (SqL.of (hid_of hL (s24 _ _ l1))) b1 (.cons hd4 .nil)) (.cons (.tup (SqT.of (hid_of hT ((s3.trans s4) _ _ l2))) (.cons hd4 .nil)) (.cons (.emp (hid_of hD (s4 _ _ l3))) .nil)))))))))
    · have one : (1 : Int).natAbs ≤ bigN := by decide +kernel
      have i1 := abs_add (j := 1) ha one
      have i2 := abs_add (j := -1) ha (by decide +kernel)
      have i3 : ((0 : Int) - a).natAbs ≤ (k + 2) * bigN := by
        refine Nat.le_trans ?_ (Nat.mul_le_mul_right bigN (show k + 1 ≤ k + 2 by omega))
        rw [Int.zero_sub, Int.natAbs_neg]
        exact ha
      have i4 := abs_add (j := 10 ^ Int.toNat 30) ha (by decide +kernel)
      intro d' hd'
      simp only [List.mem_cons, List.not_mem_nil, or_false] at hd'
      rcases hd' with rfl | rfl | rfl | rfl | rfl | rfl | rfl | rfl | rfl | rfl
      · exact md_int hk i1
      · exact md_int hk i2
      · exact md_bool
      · exact md_non
      · exact md_int hk i3
      · exact md_str hk (by omega) hy2
      · exact md_int hk i4
      · exact (md_one hmd).2
      · exact (md_one hmd).1
      · exact md_emp
  · rintro σ H' ⟨S, rfl, hS⟩
    exact some_pick (E := E0) hS (by omega) (by omega) q
end
end K01

set_option Elab.async false
set_option linter.all false
set_option maxRecDepth 100000
set_option maxHeartbeats 4000000
namespace K01
open PySem L2 PySem.KX StX
theorem len_cps (x : Str) : x.cps.toList.length = x.length := by show _ = x.cps.size; simp
theorem ascii_app {x y : Str} (h1 : ∀ c ∈ x.cps.toList, c < 128) (h2 : ∀ c ∈ y.cps.toList, c < 128) : ∀ c ∈ (x ++ y).cps.toList, c < 128 := fun c hc => by
  have e : (x ++ y).cps.toList = x.cps.toList ++ y.cps.toList := by
    show (x.cps ++ y.cps).toList = _
    simp
  rw [e] at hc
  exact (List.mem_append.mp hc).elim (h1 c) (h2 c)
theorem len_app (x y : Str) : (x ++ y).length = x.length + y.length := by
  show (x.cps ++ y.cps).size = x.cps.size + y.cps.size
  simp
theorem ascii_cut {x : Str} {lo hi : Option Int} (h : ∀ c ∈ x.cps.toList, c < 128) : ∀ c ∈ (cutS x lo hi).cps.toList, c < 128 := fun c hc => by
  unfold cutS at hc
  have hc' : c ∈ (x.cps.toList.drop (HT.sIx x.length 0 lo)).take (HT.sIx x.length x.length hi - HT.sIx x.length 0 lo) := by simpa using hc
  exact h c (List.mem_of_mem_drop (List.mem_of_mem_take hc'))
section
variable {P : Program} {w : World} {K : PySem.W.Frag} {mg : Str → Option Value} {base : Heap}
theorem bent_str {f : Addr} {fd : FuncData} {n : Nat} {cdv : Value} {A : Around} {outer : List Env} {s : Shared} {H : Hp} {Q : VK} {E : XK} {p : Addr} {x : Str} {m : Int} {k W D : Nat} (T : TxtA mg) (O_one : Own P w K mg base CX0 "_law_one_of" 2 ["dice", "items"] spOneD)
    (hr : RoomG 2 (A.deeper (PyProof.Rows.envOfC "_law_bent" (defScope s_law_bent) s.heap.objs.size f cdv))) (hp : Dc p m H) (hm : m + 1000 < 2 ^ 30) (hmd : Md k W D (.str x)) (hk : k ≤ 7)
    (q : ∀ (v' : V) (d' : PyData) (H' : Hp), Nxt p H H' → Dc p (m + 3 * n + 3) H' → Dn K (hide [p] H') v' d' → Md (k + 1) (2 * W + 1000) (D + 1) d' → Q v' H') :
    ∃ t, PSs (cxOf CX0 P w K mg base ["dice", "thing", "deep", "some", "at"] "_law_bent" (defScope s_law_bent) f cdv A outer s H E).nox (defBody s_law_bent) t ∧ t { nx := fun _ H' => Q .non H', rt := Q } (start ["dice", "thing", "deep", "some", "at"] [.ref p, .str x, .int (n : Nat)]) H := by
  have nd := sc_law_bent.nd
  refine ⟨_, (pss_cut (ps_if (pt_valA (pe_callB call_isiA (by rfl) T.isinstance (by decide +kernel) (pa_cons (av 1) (pa_cons (pe_bltn (v := .ty "int") (u := .type "int") rfl T.int (by decide +kernel) rfl) pa_nil)))) pss_never (pss_one (ps_if (pt_valA (pe_callB call_isiA (by rfl) T.isinstance (by decide +kernel) (pa_cons (av 1) (pa_cons (pe_bltn (v := .ty "str") (u := .type "str") rfl T.str (by decide +kernel) rfl) pa_nil)))) (pss_cons (ps_set (i := 3) nd rfl (Or.inl rfl) (pe_lstS (pa_cons (pe_op op_addS (av 1) pe_str) (pa_cons (pe_slice sl_str (av 1) (po_some pe_int) po_none) (pa_cons (pe_bm0 PySem.F.plainAttrs_str PySem.F.slot_str_upper PySem.F.type_str_upper mt_upA (av 1)) (pa_cons (pe_revS (av 1)) (pa_cons pe_non (pa_cons pe_str (pa_cons pe_int (pa_cons (pe_tupS (pa_cons (av 1) pa_nil)) (pa_cons pe_str (pa_cons (pe_op op_addS (av 1) pe_str) pa_nil))))))))))))
      (pss_one (ps_set (i := 3) nd rfl (Or.inl rfl) (pe_op op_addS (av 3) (pe_lstS (pa_cons (pe_op op_addS (av 1) pe_str) (pa_cons pe_str (pa_cons (pe_lstN (pa_cons (av 1) pa_nil)) (pa_cons (pe_op op_addS (av 1) pe_str) (pa_cons (pe_op op_addS (pe_slice sl_str (av 1) po_none (po_some pe_int)) pe_str) (pa_cons (pe_op op_addS pe_str (pe_slice sl_str (av 1) (po_some pe_int) po_none)) pa_nil))))))))))) pss_never)))
      (pss_one (ps_ret (pe_own O_one hr (pa_cons (av 0) (pa_cons (av 3) pa_nil)) (by decide))))), ?_⟩
  have hx := hmd.ok
  simp only [okB, Bool.and_eq_true, decide_eq_true_eq] at hx
  obtain ⟨hl, ha0⟩ := hx
  have ha : ∀ c ∈ x.cps.toList, c < 128 := fun c hc => of_decide_eq_true (List.all_eq_true.mp ha0 c hc)
  have hsz : x.length ≤ sizeLine := by rw [sizeLine_eq]; omega
  refine ⟨fun σ H' => ∃ S, σ = [some (.ref p), some (.str x), some (.int (n : Nat)), some (.ref S), none] ∧ Some' K p H m k W D S H', ?_, ?_⟩
  · refine ⟨_, _, _, _, false, rfl, .ty _, (Dq.str x : Dq K H (.str x) (.str x)).ty, kit_ty (show kitB "str" "int" = some false by decide +kernel), ?_⟩
    refine iteF ?_
    refine ⟨_, _, _, _, true, rfl, .ty _, (Dq.str x : Dq K H (.str x) (.str x)).ty, kit_ty (show kitB "str" "str" = some true by decide +kernel), ?_⟩
    refine iteT ?_
    refine ⟨by show x.length + 1 ≤ 1000000; omega, 1, rfl, _, rfl, hsz, ?_⟩
    refine ⟨rfl, x, rfl, rfl, by omega, ha, fun y1 hy1 hy2 => ?_⟩
    refine ⟨x, rfl, hsz, fun y3 hy3 hy4 => ?_⟩
    refine ⟨by simp, fun T1 H1 s1 n1 l1 => ?_⟩
    refine ⟨by show x.length + 1 ≤ 1000000; omega, ?_⟩
    refine ⟨by simp, fun S1 H2 s2 n2 l2 => ?_⟩
    refine ⟨by show x.length + 1 ≤ 1000000; omega, ?_⟩
    refine ⟨by simp, fun L1 H3 b3 s3 n3 l3 => ?_⟩
    refine ⟨by show x.length + 7 ≤ 1000000; omega, 7, rfl, _, rfl, hsz, ?_⟩
    have c7 := cutS_length x none (some 7)
    have c1 := cutS_length x (some 1) none
    refine ⟨by show (cutS x none (some 7)).length + 1 ≤ 1000000; omega, 1, rfl, _, rfl, hsz, ?_⟩
    refine ⟨by show 1 + (cutS x (some 1) none).length ≤ 1000000; omega, ?_⟩
    refine ⟨by simp, fun S2 H4 s4 n4 l4 => ?_⟩
    refine .inl ⟨_, _, (s3.trans s4) _ _ l2, l4, by simp, fun S H5 s5 n5 l5 => ?_⟩
    have hT := hp.ne n1
    have hL := (hp.same (s1.trans s2)).ne n3
    have hS := (hp.same (((s1.trans s2).trans s3).trans s4)).ne n5
    have s15 := (((s1.trans s2).trans s3).trans s4).trans s5
    have dS : ∀ y : Str, Dn K (hide [p] H5) (.str y) (.str y) := fun y => .str y
    refine ⟨S, rfl, _, _, l5, hS, .cons (dS _) (.cons (dS _) (.cons (dS _) (.cons (dS _) (.cons .non (.cons (dS _) (.cons (.int 0) (.cons (.tup (SqT.of (hid_of hT ((((s2.trans s3).trans s4).trans s5) _ _ l1))) (.cons (dS x) .nil)) (.cons (dS _) (.cons (dS _) (.cons (dS _) (.cons (dS _) (.cons (.lst (SqL.of (hid_of hL ((s4.trans s5) _ _ l3))) b3 (.cons (dS x) .nil)) (.cons (dS _) (.cons (dS _) (.cons (dS _) .nil))))))))))))))), ?_, by simp, by simp, Nxt.of s15, hp.same s15⟩
    have ok : ∀ y : Str, y.length ≤ 40 * (k + 1) + 8 → (∀ c ∈ y.cps.toList, c < 128) → Md (k + 1) (2 * W + 1000) (D + 1) (.str y) := fun y h1 h2 => md_str hk (by omega) h2
    intro d' hd'
    simp only [List.mem_cons, List.not_mem_nil, or_false] at hd'
    rcases hd' with rfl | rfl | rfl | rfl | rfl | rfl | rfl | rfl | rfl | rfl | rfl | rfl | rfl | rfl | rfl | rfl
    · exact ok _ (by rw [len_app]; show x.length + 1 ≤ _; omega) (ascii_app ha (by decide +kernel))
    · exact ok _ (by omega) (ascii_cut ha)
    · exact ok _ (by omega) hy2
    · exact ok _ (by omega) fun c hc => ha c (hy4 c hc)
    · exact md_non
    · exact ok _ (by show 0 ≤ _; omega) (by decide +kernel)
    · exact md_int hk (by simp)
    · exact (md_one hmd).1
    · exact ok _ (by show 9 ≤ _; omega) (by decide +kernel)
    · exact ok _ (by rw [len_app]; show x.length + 1 ≤ _; omega) (ascii_app ha (by decide +kernel))
    · exact ok _ (by rw [len_app]; show x.length + 1 ≤ _; omega) (ascii_app ha (by decide +kernel))
    · exact ok _ (by show 1 ≤ _; omega) (by decide +kernel)
    · exact (md_one hmd).2
    · exact ok _ (by rw [len_app]; show x.length + 7 ≤ _; omega) (ascii_app ha (by decide +kernel))
    · exact ok _ (by rw [len_app]; show (cutS x none (some 7)).length + 1 ≤ _; omega) (ascii_app (ascii_cut ha) (by decide +kernel))
    · exact ok _ (by rw [len_app]; show 1 + (cutS x (some 1) none).length ≤ _; omega) (ascii_app (by decide +kernel) (ascii_cut ha))
  · rintro σ H' ⟨S, rfl, hS⟩
    exact some_pick (E := E0) hS (by omega) (by omega) q
theorem bent_odd {f : Addr} {fd : FuncData} {n : Nat} {cdv : Value} {A : Around} {outer : List Env} {s : Shared} {H : Hp} {Q : VK} {E : XK} {p : Addr} {v : V} {d : PyData} {m : Int} {k W D : Nat} (T : TxtA mg) (O_one : Own P w K mg base CX0 "_law_one_of" 2 ["dice", "items"] spOneD)
    (hr : RoomG 2 (A.deeper (PyProof.Rows.envOfC "_law_bent" (defScope s_law_bent) s.heap.objs.size f cdv))) (hp : Dc p m H) (hm : m + 1000 < 2 ^ 30) (hd : Dn K (hide [p] H) v d) (hk : k ≤ 7) (h1 : isIntB d = false) (h2 : isStrB d = false) (h3 : isTupB d = false)
    (q : ∀ (v' : V) (d' : PyData) (H' : Hp), Nxt p H H' → Dc p (m + 3 * n + 3) H' → Dn K (hide [p] H') v' d' → Md (k + 1) (2 * W + 1000) (D + 1) d' → Q v' H') :
    ∃ t, PSs (cxOf CX0 P w K mg base ["dice", "thing", "deep", "some", "at"] "_law_bent" (defScope s_law_bent) f cdv A outer s H E).nox (defBody s_law_bent) t ∧ t { nx := fun _ H' => Q .non H', rt := Q } (start ["dice", "thing", "deep", "some", "at"] [.ref p, v, .int (n : Nat)]) H := by
  have nd := sc_law_bent.nd
  refine ⟨_, (pss_cut (ps_if (pt_valA (pe_callB call_isiA (by rfl) T.isinstance (by decide +kernel) (pa_cons (av 1) (pa_cons (pe_bltn (v := .ty "int") (u := .type "int") rfl T.int (by decide +kernel) rfl) pa_nil)))) pss_never (pss_one (ps_if (pt_valA (pe_callB call_isiA (by rfl) T.isinstance (by decide +kernel) (pa_cons (av 1) (pa_cons (pe_bltn (v := .ty "str") (u := .type "str") rfl T.str (by decide +kernel) rfl) pa_nil)))) pss_never (pss_one (ps_if (pt_not (pt_valA (pe_callB call_isiA (by rfl) T.isinstance (by decide +kernel) (pa_cons (av 1) (pa_cons (pe_bltn (v := .ty "tuple") (u := .type "tuple") rfl T.tuple (by decide +kernel) rfl) pa_nil))))) (pss_one (ps_set (i := 3) nd rfl (Or.inl rfl) (pe_lstS (pa_cons pe_non (pa_cons (pe_tupS pa_nil) (pa_cons pe_int (pa_cons pe_str pa_nil))))))) pss_never)))))
      (pss_one (ps_ret (pe_own O_one hr (pa_cons (av 0) (pa_cons (av 3) pa_nil)) (by decide))))), ?_⟩
  have hty := (Dn.dq _ _ (Dn.same hide_sub _ _ hd)).ty
  refine ⟨fun σ H' => ∃ S, σ = [some (.ref p), some v, some (.int (n : Nat)), some (.ref S), none] ∧ Some' K p H m k W D S H', ?_, ?_⟩
  · refine ⟨_, _, _, _, false, rfl, .ty _, hty, kit_ty (by rw [kit_int, h1]), ?_⟩
    refine iteF ?_
    refine ⟨_, _, _, _, false, rfl, .ty _, hty, kit_ty (by rw [kit_str, h2]), ?_⟩
    refine iteF ?_
    refine ⟨_, _, _, _, false, rfl, .ty _, hty, kit_ty (by rw [kit_tuple, h3]), ?_⟩
    refine (iteT ?_ : if true = true then _ else _)
    refine ⟨by simp, fun T1 H1 s1 n1 l1 => ?_⟩
    refine ⟨by simp, fun S H2 s2 n2 l2 => ?_⟩
    have hT := hp.ne n1
    have hS := (hp.same s1).ne n2
    have s12 := s1.trans s2
    refine ⟨S, rfl, _, [.none, .tuple [], .int 0, .str "a"], l2, hS, .cons .non (.cons (.tup (SqT.of (hid_of hT (s2 _ _ l1))) .nil) (.cons (.int 0) (.cons (.str _) .nil))), ?_, by simp, by simp, Nxt.of s12, hp.same s12⟩
    intro d' hd'
    simp only [List.mem_cons, List.not_mem_nil, or_false] at hd'
    rcases hd' with rfl | rfl | rfl | rfl
    · exact md_non
    · exact md_unit
    · exact md_int hk (by simp)
    · exact md_str hk (by show 1 ≤ _; omega) (by decide +kernel)
  · rintro σ H' ⟨S, rfl, hS⟩
    exact some_pick (E := E0) hS (by omega) (by omega) q
end
end K01

set_option Elab.async false
set_option linter.all false
set_option maxRecDepth 100000
set_option maxHeartbeats 4000000
namespace K01
open PySem L2 PySem.KX StX
/-- lists lie at B -/
theorem sqT_hides {K : PySem.W.Frag} {H : Hp} {B : List Addr} {r : Addr} {ys : List V} (h : SqT K H r ys) (hB : ∀ b ∈ B, ∃ xs, H b = some (.lst xs)) : SqT K (hide B H) r ys := by
  have ne : ∀ o, H r = some o → (∀ xs, o ≠ .lst xs) → r ∉ B := fun o e n z => by
    obtain ⟨xs, e2⟩ := hB r z
    rw [e] at e2
    exact n xs (Option.some.inj e2)
  rcases h with (h | ⟨o, h⟩) | h
  · exact .inl (.inl (by rw [hide_in (ne _ h fun xs z => nomatch z)]; exact h))
  · exact .inl (.inr ⟨o, by rw [hide_in (ne _ h fun xs z => nomatch z)]; exact h⟩)
  · exact .inr h
/-- the last branch of the def's body -/
def elseOf : List Stmt → List Stmt
  | [.If _ _ [.If _ _ [.If _ _ [.If _ _ e _] _] _] _, _] => e
  | _ => []
section
variable {P : Program} {w : World} {K : PySem.W.Frag} {mg : Str → Option Value} {base : Heap}
theorem nil_iff {ds : List PyData} : isNilD (.tuple ds) = decide (ds = []) := by cases ds <;> rfl
theorem md_row {k W D : Nat} {ds ys : List PyData} (h : Md k W D (.tuple ds)) (h1 : ys.length ≤ ds.length + 1) (h2 : ∀ y ∈ ys, y ∈ ds ∨ y = .int 0) (h3 : PyData.weightAll ys ≤ 2 * W + 1000) : Md (k + 1) (2 * W + 1000) (D + 1) (.tuple ys) ∧ Md (k + 1) (2 * W + 1000) (D + 1) (.list ys) := by
  obtain ⟨pl, pok, pw, pd, pD⟩ := h.parts
  have o : ∀ y ∈ ys, okB (k + 1) y = true := fun y hy => by
    rcases h2 y hy with z | z
    · exact okB_up _ (pok y z)
    · rw [z]; simp [okB]
  have dd : ∀ y ∈ ys, y.depth + 1 ≤ D + 1 := fun y hy => by
    rcases h2 y hy with z | z
    · have := pd y z; omega
    · rw [z]; simp [PyData.depth]
  exact ⟨Md.tup (by omega) o h3 dd (by omega), Md.lst (by omega) o h3 dd (by omega)⟩
abbrev tFlat (K : PySem.W.Frag) : TS := tSeq (tAsg (tLstS (tCons (tCB (rLstN K) (tCons (aVar 1) tNil)) (tCons (tOp (rAddS K) (aVar 1) (tTupS (tCons (tC (.int 0)) tNil))) (tCons (tOp (rAddS K) (aVar 1) (tSl (rSlTS K) (aVar 1) tNoPart (tPart (tC (.int 1))))) (tCons (tC .non) (tCons (tTupS (tCons (aVar 1) tNil)) (tCons (tRevT K (aVar 1)) (tCons (tSl (rSlTS K) (aVar 1) (tPart (tC (.int 1))) tNoPart)
  (tCons (tSl (rSlTS K) (aVar 1) tNoPart (tPart (tUn (rU fun i => .int (-i)) (tC (.int 1))))) (tCons tDNewK tNil)))))))))) (gName 3)) (tDrop (tAppS (aVar 3) (tOp (rAddS K) (tSl (rSlTS K) (aVar 1) (tPart (tC (.int 1))) tNoPart) (tSl (rSlTS K) (aVar 1) tNoPart (tPart (tC (.int 1)))))))
theorem flat_ok {K : PySem.W.Frag} {H H1 : Hp} {p b : Addr} {xs : List V} {ds : List PyData} {m : Int} {k W D n : Nat} {De : Ends} (hp : Dc p (m + 1) H1) (nx : Nxt p H H1) (hbq : SqT K (hide [p] H) b xs) (hxs : DnAll K (hide [p] H) xs ds) (hmd : Md k W D (.tuple ds)) (hk : k ≤ 7)
    (q : ∀ (S : Addr) (H' : Hp), Some' K p H (m + 1) k W D S H' → De.nx [some (.ref p), some (.ref b), some (.int (n : Nat)), some (.ref S), none] H') : tFlat K De [some (.ref p), some (.ref b), some (.int (n : Nat)), none, none] H1 := by
  obtain ⟨pl, pok, pw, pd, pD⟩ := hmd.parts
  have hlen := hxs.length
  have hb1 : SqT K H1 b xs := hide_sub.sqT (nx.sqT hbq)
  refine ⟨b, xs, rfl, hb1, fun L1 H2 b2 s2 n2 l2 => ?_⟩
  refine ⟨by simp, fun T2 H3 s3 n3 l3 => ?_⟩
  refine .inr ⟨xs, _, (s2.trans s3).sqT hb1, SqT.of l3, by simp; omega, fun r2 H4 s4 hr2 => ?_⟩
  have s14 := (s2.trans s3).trans s4
  refine ⟨1, rfl, b, xs, rfl, s14.sqT hb1, fun r3 H5 s5 hr3 => ?_⟩
  have s15 := s14.trans s5
  have c1 : cutV xs none (some 1) = xs.take 1 := cutV_to xs 1
  have c2 : cutV xs (some 1) none = xs.drop 1 := cutV_from xs 1
  have c3 := cutV_init xs
  rw [c1] at hr3
  refine .inr ⟨xs, _, s15.sqT hb1, hr3, by simp; omega, fun r4 H6 s6 hr4 => ?_⟩
  have s16 := s15.trans s6
  refine ⟨by simp, fun T5 H7 s7 n7 l7 => ?_⟩
  have s17 := s16.trans s7
  refine ⟨b, xs, rfl, s17.sqT hb1, fun T6 H8 s8 n8 l8 => ?_⟩
  have s18 := s17.trans s8
  refine ⟨1, rfl, b, xs, rfl, s18.sqT hb1, fun r7 H9 s9 hr7 => ?_⟩
  have s19 := s18.trans s9
  rw [c2] at hr7
  refine ⟨1, rfl, -1, rfl, b, xs, rfl, s19.sqT hb1, fun r8 H10 s10 hr8 => ?_⟩
  rw [c3] at hr8
  have s110 := s19.trans s10
  intro D9 n9
  have s11 : Same H10 (upd H10 D9 (.dK [])) := (Same.refl _).new n9
  have l11 : upd H10 D9 (.dK []) D9 = some (.dK []) := upd_same
  generalize upd H10 D9 (.dK []) = H11 at s11 l11
  refine ⟨by simp, fun S H12 s12 n12 l12 => ?_⟩
  have s1012 := s11.trans s12
  have s112 := s110.trans s1012
  refine ⟨S, _, rfl, l12, ?_⟩
  refine ⟨1, rfl, b, xs, rfl, s112.sqT hb1, fun ra H13 s13 hra => ?_⟩
  rw [c2] at hra
  refine ⟨1, rfl, b, xs, rfl, (s112.trans s13).sqT hb1, fun rb H14 s14' hrb => ?_⟩
  rw [c1] at hrb
  refine .inr ⟨_, _, s14'.sqT hra, hrb, by simp; omega, fun rc H15 s15' hrc => ?_⟩
  have s1215 := (s13.trans s14').trans s15'
  have s115 := s112.trans s1215
  refine ⟨_, s1215 _ _ l12, by simp, ?_⟩
  -- the ends
  have dc15 := hp.same s115
  have hS : S ≠ p := (hp.same (s110.trans s11)).ne n12
  have hL1 : L1 ≠ p := hp.ne n2
  have hT5 : T5 ≠ p := (hp.same s16).ne n7
  have hT6 : T6 ≠ p := (hp.same s17).ne n8
  have hD9 : D9 ≠ p := (hp.same s110).ne n9
  have hSn : H S = none := nx.free hS (s110.trans s11 |>.free n12)
  have lS : H15 S = some (.lst [.ref L1, .ref r2, .ref r4, .non, .ref T5, .ref T6, .ref r7, .ref r8, .ref D9]) := s1215 _ _ l12
  obtain ⟨g, s0, n0, hpe, _⟩ := id dc15
  have hBl : ∀ a ∈ [S, p], ∃ xs, H15 a = some (.lst xs) := fun a ha => by
    rcases List.mem_cons.mp ha with z | z
    · rw [z]; exact ⟨_, lS⟩
    · rw [List.mem_singleton.mp z]; exact ⟨_, hpe⟩
  have neS : ∀ {H' : Hp} {a : Addr} {o : HO}, Same H' H12 → H12 S ≠ none → H' a = some o → (∀ H0, Same H0 H' → True) → True := fun _ _ _ _ => trivial
  have hidB : ∀ {a : Addr} {o : HO}, a ≠ p → a ≠ S → H15 a = some o → hide [S, p] H15 a = some o := fun {a o} h1 h2 e => by
    rw [hide_in (fun z => by
      rcases List.mem_cons.mp z with y | y
      · exact h2 y
      · exact h1 (List.mem_singleton.mp y))]
    exact e
  have sB : Same (hide [p] H) (hide [S, p] H15) := fun a o e => by
    obtain ⟨e1, e2⟩ := hide_of e
    have a1 : a ≠ p := fun z => e2 (by rw [z]; simp)
    have a2 : a ≠ S := fun z => by rw [z, hSn] at e1; cases e1
    exact hidB a1 a2 (s115 _ _ (nx.get a1 e1))
  have hxB := DnAll.same sB _ _ hxs
  have tq : ∀ {H' : Hp} {r : Addr} {ys : List V}, SqT K H' r ys → Same H' H15 → SqT K (hide [S, p] H15) r ys := fun h s => sqT_hides (s.sqT h) hBl
  have oS : ∀ {a : Addr} {o : HO} {H' : Hp}, H' a = some o → Same H' (H11) → a ≠ S := fun {a o H'} e s z => by
    have := s _ _ e
    rw [z, n12] at this
    cases this
  have s1115 := s12.trans s1215
  have s215 : Same H2 H15 := ((((((((s3.trans s4).trans s5).trans s6).trans s7).trans s8).trans s9).trans s10).trans s11).trans s1115
  have s711 : Same H7 H11 := ((s8.trans s9).trans s10).trans s11
  have s211 : Same H2 H11 := (((((s3.trans s4).trans s5).trans s6).trans s7).trans s711)
  refine q S _ ⟨_, [.list ds, .tuple (ds ++ [.int 0]), .tuple (ds ++ ds.take 1), .none, .tuple [.tuple ds], .tuple ds.reverse, .tuple (ds.drop 1), .tuple (ds.take (ds.length - 1)), .dict [], .tuple (ds.drop 1 ++ ds.take 1)], upd_same, hS, ?_, ?_, by simp, by simp, (nx.trans (Nxt.of s115)).put hSn, dc15.upd hS⟩
  · refine DnAll.same (hide_more (D := S)) _ _ ?_
    rw [hide_upd]
    refine .cons (.lst (SqL.of (hidB hL1 (oS l2 s211) (s215 _ _ l2))) b2 hxB) (.cons (.tup (tq hr2 ((((((((s5.trans s6).trans s7).trans s8).trans s9).trans s10).trans s11).trans s1115))) (hxB.append (.cons (.int 0) .nil))) (.cons (.tup (tq hr4 ((((((s7.trans s8).trans s9).trans s10).trans s11).trans s1115))) (hxB.append (hxB.take 1))) (.cons .non (.cons (.tup (SqT.of (hidB hT5 (oS l7 s711) ((s711.trans s1115) _ _ l7))) (.cons (.tup (sB.sqT hbq) hxB) .nil))
      (.cons (.tup (SqT.of (hidB hT6 (oS l8 ((s9.trans s10).trans s11)) ((((s9.trans s10).trans s11).trans s1115) _ _ l8))) hxB.reverse) (.cons (.tup (tq hr7 ((s10.trans s11).trans s1115)) (hxB.drop 1)) (.cons (.tup (tq hr8 (s11.trans s1115)) ?_) (.cons (.emp (hidB hD9 (oS l11 (Same.refl _)) (s1115 _ _ l11))) (.cons (.tup (tq hrc (Same.refl _)) ((hxB.drop 1).append (hxB.take 1))) .nil)))))))))
    rw [hlen]
    exact hxB.take _
  · have tk : ∀ j, PyData.weightAll (ds.take j) ≤ W ∧ PyData.weightAll (ds.drop j) ≤ W := fun j => by
      have := weight_cut j ds
      omega
    intro d' hd'
    simp only [List.mem_cons, List.not_mem_nil, or_false] at hd'
    rcases hd' with rfl | rfl | rfl | rfl | rfl | rfl | rfl | rfl | rfl | rfl
    · exact (md_row hmd (by omega) (fun y hy => .inl hy) (by omega)).2
    · refine (md_row hmd (by simp) (fun y hy => ?_) ?_).1
      · rcases List.mem_append.mp hy with z | z
        · exact .inl z
        · exact .inr (List.mem_singleton.mp z)
      · rw [weight_app]
        simp only [PyData.weightAll, PyData.weight]
        simp
        omega
    · refine (md_row hmd (by rw [List.length_append, List.length_take]; omega) (fun y hy => ?_) ?_).1
      · rcases List.mem_append.mp hy with z | z
        · exact .inl z
        · exact .inl (List.mem_of_mem_take z)
      · rw [weight_app]
        have := (tk 1).1
        omega
    · exact md_non
    · exact (md_one hmd).1
    · exact (md_row hmd (by simp) (fun y hy => .inl (List.mem_reverse.mp hy)) (by rw [weight_rev]; omega)).1
    · exact (md_row hmd (by rw [List.length_drop]; omega) (fun y hy => .inl (List.mem_of_mem_drop hy)) (by have := (tk 1).2; omega)).1
    · exact (md_row hmd (by rw [List.length_take]; omega) (fun y hy => .inl (List.mem_of_mem_take hy)) (by have := (tk (ds.length - 1)).1; omega)).1
    · exact md_emp
    · refine (md_row hmd (by rw [List.length_append, List.length_drop, List.length_take]; omega) (fun y hy => ?_) ?_).1
      · rcases List.mem_append.mp hy with z | z
        · exact .inl (List.mem_of_mem_drop z)
        · exact .inl (List.mem_of_mem_take z)
      · rw [weight_app]
        have := weight_cut 1 ds
        omega
theorem bent_flat {f : Addr} {fd : FuncData} {n : Nat} {cdv : Value} {A : Around} {outer : List Env} {s : Shared} {H : Hp} {Q : VK} {E : XK} {p b : Addr} {ds : List PyData} {m : Int} {k W D : Nat} (T : TxtA mg) (TX : TxtX mg) (O_roll : Own P w K mg base CX0 "_law_roll" 1 ["dice", "total"] spRollD) (O_one : Own P w K mg base CX0 "_law_one_of" 2 ["dice", "items"] spOneD)
    (hr : RoomG (n + 2) (A.deeper (PyProof.Rows.envOfC "_law_bent" (defScope s_law_bent) s.heap.objs.size f cdv))) (hp : Dc p m H) (hm : m + 1000 < 2 ^ 30) (hd : Dn K (hide [p] H) (.ref b) (.tuple ds)) (hmd : Md k W D (.tuple ds)) (hk : k ≤ 7)
    (hE : ∃ tE : TS, PSs (cxOf CX0 P w K mg base ["dice", "thing", "deep", "some", "at"] "_law_bent" (defScope s_law_bent) f cdv A outer s H E).nox (elseOf (defBody s_law_bent)) tE ∧
      ∀ (De : Ends) (H' : Hp), De.rt = Q → Nxt p H H' → Dc p (m + 1) H' → ds ≠ [] → n ≠ 0 → tE De [some (.ref p), some (.ref b), some (.int (n : Nat)), none, none] H')
    (q : ∀ (v' : V) (d' : PyData) (H' : Hp), Nxt p H H' → Dc p (m + 3 * n + 3) H' → Dn K (hide [p] H') v' d' → Md (k + 1) (2 * W + 1000) (D + 1) d' → Q v' H') :
    ∃ t, PSs (cxOf CX0 P w K mg base ["dice", "thing", "deep", "some", "at"] "_law_bent" (defScope s_law_bent) f cdv A outer s H E).nox (defBody s_law_bent) t ∧ t { nx := fun _ H' => Q .non H', rt := Q } (start ["dice", "thing", "deep", "some", "at"] [.ref p, .ref b, .int (n : Nat)]) H := by
  have nd := sc_law_bent.nd
  obtain ⟨tE, hE, hQ⟩ := hE
  have hty := (Dn.dq _ _ (Dn.same hide_sub _ _ hd)).ty
  obtain ⟨pl, pok, pw, pd, pD⟩ := hmd.parts
  refine ⟨_, (pss_cut (ps_if (pt_valA (pe_callB call_isiA (by rfl) T.isinstance (by decide +kernel) (pa_cons (av 1) (pa_cons (pe_bltn (v := .ty "int") (u := .type "int") rfl T.int (by decide +kernel) rfl) pa_nil)))) pss_never (pss_one (ps_if (pt_valA (pe_callB call_isiA (by rfl) T.isinstance (by decide +kernel) (pa_cons (av 1) (pa_cons (pe_bltn (v := .ty "str") (u := .type "str") rfl T.str (by decide +kernel) rfl) pa_nil)))) pss_never (pss_one (ps_if (pt_not (pt_valA (pe_callB call_isiA (by rfl) T.isinstance (by decide +kernel) (pa_cons (av 1) (pa_cons (pe_bltn (v := .ty "tuple") (u := .type "tuple") rfl T.tuple (by decide +kernel) rfl) pa_nil))))) pss_never (pss_one (ps_if (PW.pt (pw_or (pt_cmpA (op_eqNil hr.units64) (av 1) (pe_tupS pa_nil)) (pw_or (pt_cmpA op_ltA (av 2) pe_int) (pw_or1 (pt_cmpA (op_eqA hr.units64) (pe_own O_roll hr (pa_cons (av 0) (pa_cons pe_int pa_nil)) (by omega)) pe_int))))) (pss_cons (ps_set (i := 3) nd rfl (Or.inl rfl) (pe_lstS (pa_cons (pe_callTy call_lstN (by rfl) TX.list (by decide +kernel) (pa_cons (av 1) pa_nil)) (pa_cons (pe_op op_addS (av 1) (pe_tupS (pa_cons pe_int pa_nil))) (pa_cons (pe_op op_addS (av 1) (pe_slice sl_tupS (av 1) po_none (po_some pe_int))) (pa_cons pe_non (pa_cons (pe_tupS (pa_cons (av 1) pa_nil)) (pa_cons (pe_revT (av 1)) (pa_cons (pe_slice sl_tupS (av 1) (po_some pe_int) po_none) (pa_cons (pe_slice sl_tupS (av 1) po_none (po_some (pe_un un_neg pe_int))) (pa_cons pe_dnewK pa_nil)))))))))))
      (pss_one (ps_expr (pe_appS (av 3) (pe_op op_addS (pe_slice sl_tupS (av 1) (po_some pe_int) po_none) (pe_slice sl_tupS (av 1) po_none (po_some pe_int))))))) hE)))))))
      (pss_one (ps_ret (pe_own O_one hr (pa_cons (av 0) (pa_cons (av 3) pa_nil)) (by omega))))), ?_⟩
  cases hd with
  | @tup _ xs _ hbq hxs =>
    have hlen := hxs.length
    refine ⟨fun σ H' => ∃ S, σ = [some (.ref p), some (.ref b), some (.int (n : Nat)), some (.ref S), none] ∧ Some' K p H (m + 1) k W D S H', ?_, ?_⟩
    · refine ⟨_, _, _, _, false, rfl, .ty _, hty, kit_ty (kit_int (.tuple ds)), ?_⟩
      refine iteF ?_
      refine ⟨_, _, _, _, false, rfl, .ty _, hty, kit_ty (kit_str (.tuple ds)), ?_⟩
      refine iteF ?_
      refine ⟨_, _, _, _, true, rfl, .ty _, hty, kit_ty (kit_tuple (.tuple ds)), ?_⟩
      refine (iteF ?_ : if false = true then _ else _)
      refine ⟨by simp, fun T0 H0 s0 n0 l0 => ?_⟩
      have hp0 := hp.same s0
      have hb0 : Dq K H0 (.ref b) (.tuple ds) := Dn.dq _ _ (Dn.same (fun b o e => s0 _ _ (hide_sub b o e)) _ _ (.tup hbq hxs))
      refine ⟨T0, .tuple ds, rfl, SqT.of l0, hb0, ?_⟩
      have fl : ∀ (m1 : Int) (H1 : Hp), Dc p m1 H1 → m1 ≤ m + 1 → Nxt p H H1 → tFlat K { nx := fun σ H' => ∃ S, σ = [some (.ref p), some (.ref b), some (.int (n : Nat)), some (.ref S), none] ∧ Some' K p H (m + 1) k W D S H', rt := Q } [some (.ref p), some (.ref b), some (.int (n : Nat)), none, none] H1 := fun m1 H1 dc h1 nx =>
        flat_ok (n := n) (dc.mono h1) nx hbq hxs hmd hk fun S H' h => ⟨S, rfl, h⟩
      rw [nil_iff]
      refine ite2 (fun c => ?_) (fun c => ?_)
      · exact fl m H0 hp0 (by omega) (Nxt.of s0)
      · have hne : ds ≠ [] := fun z => c (decide_eq_true z)
        refine ite2 (fun c2 => ?_) (fun c2 => ?_)
        · exact fl m H0 hp0 (by omega) (Nxt.of s0)
        · have hn0 : n ≠ 0 := fun z => c2 (decide_eq_true (by omega))
          refine ⟨p, _, _, rfl, hp0, by omega, by decide, by decide, fun r H2 r0 r1 dc2 e2 => ?_⟩
          have nx2 : Nxt p H H2 := (Nxt.of s0).trans (Nxt.of_eq e2)
          refine ite2 (fun c3 => ?_) (fun c3 => ?_)
          · exact fl (m + 1) H2 dc2 (by omega) nx2
          · exact hQ _ H2 rfl nx2 dc2 hne hn0
    · rintro σ H' ⟨S, rfl, hS⟩
      exact some_pick (E := E0) hS (by omega) (by omega) q
theorem bent_tup {f : Addr} {fd : FuncData} {n : Nat} {cdv : Value} {A : Around} {outer : List Env} {s : Shared} {H : Hp} {Q : VK} {E : XK} {p b : Addr} {ds : List PyData} {m : Int} {k W D : Nat} (T : TxtA mg) (TX : TxtX mg) (O_roll : Own P w K mg base CX0 "_law_roll" 1 ["dice", "total"] spRollD) (O_one : Own P w K mg base CX0 "_law_one_of" 2 ["dice", "items"] spOneD)
    (O_bent : ∀ n', n = n' + 1 → Own P w K mg base CX0 "_law_bent" (n' + 3) ["dice", "thing", "deep"] (spBent K n'))
    (hr : RoomG (n + 2) (A.deeper (PyProof.Rows.envOfC "_law_bent" (defScope s_law_bent) s.heap.objs.size f cdv))) (hp : Dc p m H) (hm : m + 3 * (n : Int) + 1000 < 2 ^ 30) (hd : Dn K (hide [p] H) (.ref b) (.tuple ds)) (hmd : Md k W D (.tuple ds)) (hk : k ≤ 7) (hn : n ≤ 20)
    (q : ∀ (v' : V) (d' : PyData) (H' : Hp), Nxt p H H' → Dc p (m + 3 * n + 3) H' → Dn K (hide [p] H') v' d' → Md (k + 1) (2 * W + 1000) (D + 1) d' → Q v' H') :
    ∃ t, PSs (cxOf CX0 P w K mg base ["dice", "thing", "deep", "some", "at"] "_law_bent" (defScope s_law_bent) f cdv A outer s H E).nox (defBody s_law_bent) t ∧ t { nx := fun _ H' => Q .non H', rt := Q } (start ["dice", "thing", "deep", "some", "at"] [.ref p, .ref b, .int (n : Nat)]) H := by
  have nd := sc_law_bent.nd
  refine bent_flat (fd := fd) T TX O_roll O_one hr hp (by omega) hd hmd hk ?_ q
  cases n with
  | zero => exact ⟨_, pss_never, fun _ _ _ _ _ _ z => absurd rfl z⟩
  | succ n' =>
    have Ob := O_bent n' rfl
    refine ⟨_, (pss_cons (ps_set (i := 4) nd rfl (Or.inl rfl) (pe_own O_roll hr (pa_cons (av 0) (pa_cons (pe_callB call_lenA (by rfl) T.len PySem.boot_len (pa_cons (av 1) pa_nil)) pa_nil)) (by omega)))
      (pss_one (ps_ret (pe_op op_addS (pe_op op_addS (pe_slice sl_tupS (av 1) po_none (po_some (av 4))) (pe_tupS (pa_cons (pe_own Ob hr (pa_cons (av 0) (pa_cons (pe_ixA (av 1) (av 4)) (pa_cons (pe_op op_subA (av 2) pe_int) pa_nil))) (by omega)) pa_nil))) (pe_slice sl_tupS (av 1) (po_some (pe_op op_addA (av 4) pe_int)) po_none))))), ?_⟩
    intro De H1 eD nx1 dc1 hne _
    obtain ⟨pl, pok, pw, pd, pD⟩ := hmd.parts
    cases hd with
    | @tup _ xs _ hbq hxs =>
      have hlen := hxs.length
      have hpos : 0 < ds.length := List.length_pos_iff.mpr hne
      have hb1 : SqT K H1 b xs := hide_sub.sqT (nx1.sqT hbq)
      refine .inr ⟨xs, hb1, p, _, _, rfl, dc1, by omega, by omega, by omega, fun r H2 r0 r1 dc2 e2 => ?_⟩
      have nx2 := nx1.trans (Nxt.of_eq e2)
      have hb2 : SqT K H2 b xs := hide_sub.sqT (nx2.sqT hbq)
      obtain ⟨j, rfl⟩ : ∃ j : Nat, r = (j : Int) := ⟨r.toNat, by omega⟩
      have hj : j < xs.length := by omega
      refine ⟨(j : Int), rfl, b, xs, rfl, hb2, fun ra H3 s3 hra => ?_⟩
      rw [cutV_to] at hra
      have nx3 := nx2.trans (Nxt.of s3)
      have hb3 : SqT K H3 b xs := hide_sub.sqT (nx3.sqT hbq)
      have hx : xs[j]? = some xs[j] := List.getElem?_eq_getElem hj
      obtain ⟨dj, hdj, hdn⟩ := hxs.get hx
      have hdm : dj ∈ ds := List.mem_of_getElem? hdj
      refine .inr ⟨xs, xs[j], hb3, atI_nat hx, ?_⟩
      refine ⟨p, xs[j], dj, m + 1 + 1, k, dj.weight, dj.depth, ?_, dc2.same s3, by omega, Dn.same nx3 _ _ hdn, ⟨pok dj hdm, Nat.le_refl _, Nat.le_refl _⟩, hk, by omega, fun v' d' H4 nx4 dc4 hd4 md4 => ?_⟩
      · have : (((n' + 1 : Nat) : Int) - 1) = ((n' : Nat) : Int) := by omega
        rw [this]
        rfl
      refine ⟨by simp, fun T5 H5 s5 n5 l5 => ?_⟩
      obtain ⟨g0, s0, n0, hpe, _⟩ := id (dc2.same s3)
      have hraB : SqT K (hide [p] H3) ra (xs.take j) := sqT_hide hra hpe
      have nx5 := nx4.trans (Nxt.of s5)
      have hra5 : SqT K H5 ra (xs.take j) := hide_sub.sqT (nx5.sqT hraB)
      refine .inr ⟨_, _, hra5, SqT.of l5, by simp; omega, fun rb H6 s6 hrb => ?_⟩
      have nx6 := (nx3.trans nx5).trans (Nxt.of s6)
      have hb6 : SqT K H6 b xs := hide_sub.sqT (nx6.sqT hbq)
      refine ⟨(j : Int) + 1, rfl, b, xs, rfl, hb6, fun rd H7 s7 hrd => ?_⟩
      rw [show (j : Int) + 1 = ((j + 1 : Nat) : Int) by omega, cutV_from] at hrd
      refine .inr ⟨_, _, s7.sqT hrb, hrd, by simp; omega, fun re H8 s8 hre => ?_⟩
      have nx8 := (nx6.trans (Nxt.of s7)).trans (Nxt.of s8)
      have dc8 := (((dc4.same s5).same s6).same s7).same s8
      obtain ⟨g1, s1, n1, hpe8, _⟩ := id dc8
      have h48 : Nxt p H4 H8 := (((Nxt.of s5).trans (Nxt.of s6)).trans (Nxt.of s7)).trans (Nxt.of s8)
      have hx8 := DnAll.same nx8 _ _ hxs
      rw [eD]
      refine q (.ref re) (.tuple (ds.take j ++ [d'] ++ ds.drop (j + 1))) H8 nx8 (dc8.mono (by omega)) (.tup (sqT_hide hre hpe8) (((hx8.take j).append (.cons (Dn.same h48 _ _ hd4) .nil)).append (hx8.drop (j + 1)))) ?_
      have hw := weight_mem hdm
      have hdd := pd dj hdm
      have m1 := md4.wt
      have m2 := md4.dp
      have hsplit : PyData.weightAll ds = PyData.weightAll (ds.take j) + (dj.weight + 1 + PyData.weightAll (ds.drop (j + 1))) := by
        have h1 := weight_cut j ds
        have h2 : ds.drop j = dj :: ds.drop (j + 1) := by
          have hj' := (List.getElem?_eq_some_iff.mp hdj)
          obtain ⟨h3, h4⟩ := hj'
          rw [List.drop_eq_getElem_cons h3, h4]
        rw [h2] at h1
        simp only [PyData.weightAll] at h1
        omega
      refine Md.tup ?_ (fun y hy => ?_) ?_ (fun y hy => ?_) (by omega)
      · rw [List.length_append, List.length_append, List.length_take, List.length_drop]
        simp
        omega
      · rcases List.mem_append.mp hy with z | z
        · rcases List.mem_append.mp z with z | z
          · exact okB_up _ (pok y (List.mem_of_mem_take z))
          · rw [List.mem_singleton.mp z]; exact md4.ok
        · exact okB_up _ (pok y (List.mem_of_mem_drop z))
      · rw [weight_app, weight_app]
        simp only [PyData.weightAll]
        omega
      · rcases List.mem_append.mp hy with z | z
        · rcases List.mem_append.mp z with z | z
          · have := pd y (List.mem_of_mem_take z); omega
          · rw [List.mem_singleton.mp z]; omega
        · have := pd y (List.mem_of_mem_drop z); omega
theorem ok_bent_step {f : Addr} {fd : FuncData} (F : Fun K "_law_bent" "_law_bent" s_law_bent f fd) (T : TxtA mg) (TX : TxtX mg) (O_roll : Own P w K mg base CX0 "_law_roll" 1 ["dice", "total"] spRollD) (O_one : Own P w K mg base CX0 "_law_one_of" 2 ["dice", "items"] spOneD) (n : Nat)
    (O_bent : ∀ n', n = n' + 1 → Own P w K mg base CX0 "_law_bent" (n' + 3) ["dice", "thing", "deep"] (spBent K n')) : FnG P w K mg base CX0 (n + 3) f fd ["dice", "thing", "deep"] (spBent K n) := by
  refine okG F sc_law_bent (fun vs H Q E h => ?_) (fun cdv A outer s H vs Q E hr h => ?_)
  · obtain ⟨_, _, _, _, _, _, _, rfl, _⟩ := h
    rfl
  · obtain ⟨p, v, d, m, k, W, D, rfl, hp, hm, hd, hmd, hk, hn, q⟩ := h
    have hr2 := hr.mono (show 2 ≤ n + 2 by omega)
    cases hd with
    | non => exact bent_odd (fd := fd) T O_one hr2 hp (by omega) .non hk rfl rfl rfl q
    | bl x => exact bent_num (fd := fd) (a := if x = true then 1 else 0) T O_one hr2 hp (by omega) (.bl x) hmd hk rfl (by
        refine Nat.le_trans ?_ (Nat.mul_le_mul_right bigN (show 1 ≤ k + 1 by omega))
        cases x <;> decide +kernel) (kit_int (.bool x)) q
    | int i => exact bent_num (fd := fd) T O_one hr2 hp (by omega) (.int i) hmd hk rfl (by
        have := hmd.ok
        simpa only [okB, decide_eq_true_eq] using this) (kit_int (.int i)) q
    | str x => exact bent_str (fd := fd) T O_one hr2 hp (by omega) hmd hk q
    | lst h1 h2 h3 => exact bent_odd (fd := fd) T O_one hr2 hp (by omega) (.lst h1 h2 h3) hk rfl rfl rfl q
    | tup h1 h2 => exact bent_tup (fd := fd) T TX O_roll O_one O_bent hr hp hm (.tup h1 h2) hmd hk hn q
    | emp h1 => exact bent_odd (fd := fd) T O_one hr2 hp (by omega) (.emp h1) hk rfl rfl rfl q
end
end K01

set_option Elab.async false
set_option linter.all false
set_option maxRecDepth 100000
set_option maxHeartbeats 4000000
namespace K01
open PySem PySem.Spec PyProof.Rows L2 LamX PySem.KX
/-- _law_met, as a caller knows it -/
structure MetK (K : PySem.W.Frag) (mg : Str → Option Value) (c : MetC) : Prop where
  ex : ∃ g fd, Fun K "_law_met" "_law_met" s_law_met g fd ∧ mg "_law_met" = some (.ref g) ∧ PySem.W.keepIn K (.ref g) = true ∧ Binds K fd ["call"] []
  txt : TxtT K mg c
/-- the defs that make lambdas: their code objects and tables -/
structure LamK (base : Heap) (mg : Str → Option Value) (cdv : Value) (T : List (Addr × Str)) (q : Str) : Prop where
  ex : ∃ c P : Addr, cdv = .ref c ∧ TabB base mg c P ∧ (P, q) ∈ T ∧ ∀ p ∈ T, p.1 = P → p.2 = q
theorem pe_met {X : Cx} {c : MetC} {T : List (Addr × Str)} {k : Nat} {params : Arguments} {body : Expr} {scope : Scope} {t : XK → TE} {p lpos pos : Pos} (M : MetK X.K X.mg c) (LK : LamK X.base X.mg X.env.code T (X.env.qual ++ "<lambda>")) (hr : RoomG (k + 2) X.A) (L : LamS X.env.scope scope) (hdef : defaultsOf params X.env = ([], []))
    (hbind : ∀ (q : Str) (cl : List (Str × Addr)) (pm cv ctv : Value), bindArgs (PySem.W.kla_fn "<lambda>" q params body scope cl pm cv ctv) ⟨[], []⟩ = pure [])
    (hbody : ∀ (A : Around) (outer : List Env) (s : Shared) (H : Hp) (E : XK) (f c' : Addr), RoomG k (A.deeper (lamEnv X scope s.heap.objs.size f c')) → PE (lamCx X A outer s H E scope f c') body (t E)) (hg : Gl X "_law_met" := by rfl) :
    PE X (.Call (.Name "_law_met" p) [.Lambda params body scope lpos] [] pos) (tLam T (TTmet X.K c) t) := by
  obtain ⟨g, fd, F, hm, hk, hb⟩ := M.ex
  obtain ⟨oc, od, kV, doc, pm, an, cdv, ct, osl, rfl, lk, hcd⟩ := F.ex
  obtain ⟨c0, P, hcode, TB, hmT, hu⟩ := LK.ex
  exact pe_lamcallG (x := "_law_met") (a := "call") hg hm hk lk hcd hb sc_law_met rfl (Or.inl rfl) (met_gives (hr.mono (by omega)) M.txt) TB hcode hmT hu hr L hdef hbind hbody
/-- a def whose code object is known -/
theorem okGL {P : Program} {w : World} {K : PySem.W.Frag} {mg : Str → Option Value} {base : Heap} {x qual : Str} {st : Stmt} {f : Addr} {fd : FuncData} {N ps : List Str} {k : Nat} {sp : Sp} {cv : Value}
    (F : ∃ (oc : Value) (od : Option Addr) (kV doc pm : Value) (an : Option Addr) (ct : Value) (osl : Array (Option Value)), fd = PySem.W.fnOf x qual (defArgs st) (defBody st) (defScope st) .none kV doc pm an cv ct ∧ K.lookup f = some ⟨oc, od, .func fd, osl⟩ ∧ PySem.W.codeIn K cv qual = true)
    (S : FnScope N ps (defScope st)) (len : ∀ vs H Q E, sp vs H Q E → vs.length = ps.length)
    (hbody : ∀ (A : Around) (outer : List Env) (s : Shared) (H : Hp) (vs : List V) (Q : VK) (E : XK), RoomG k (A.deeper (envOfC qual (defScope st) s.heap.objs.size f cv)) → sp vs H Q E →
      ∃ t, PSs (cxOf CX0 P w K mg base N qual (defScope st) f cv A outer s H E).nox (defBody st) t ∧ t { nx := fun _ H' => Q .non H', rt := Q } (start N vs) H) : FnG P w K mg base CX0 (k + 1) f fd ps sp := by
  obtain ⟨oc, od, kV, doc, pm, an, ct, osl, rfl, lk, hcd⟩ := F
  refine fn_ofG lk hcd S len fun A outer s H vs Q E hr hsp => ?_
  obtain ⟨t, h, q⟩ := hbody A outer s H vs Q E hr hsp
  exact ⟨t, h.nox, q⟩
/-! all but the dice at p and the tables stay -/
def Nt (p : Addr) (H H' : Hp) : Prop := ∀ b o, b ≠ p → H b = some o → (∀ ps, o ≠ .tbl ps) → H' b = some o
theorem Nt.refl {p : Addr} {H : Hp} : Nt p H H := fun _ _ _ e _ => e
theorem Nt.trans {p : Addr} {H H' H2 : Hp} (a : Nt p H H') (b : Nt p H' H2) : Nt p H H2 := fun c o h e n => b c o h (a c o h e n) n
theorem Nt.of {p : Addr} {H H' : Hp} (e : Nxt p H H') : Nt p H H' := fun b o h q _ => e.get h q
theorem Nt.same {p : Addr} {H H' : Hp} (e : Same H H') : Nt p H H' := fun b o _ q _ => e b o q
theorem Nt.ext {p : Addr} {H H' : Hp} (e : ExtN H H') : Nt p H H' := fun b o _ q n => e b o q n
theorem Nt.keep {p : Addr} {H H' : Hp} (e : Nt p H H') : KeptQ (hide [p] H) (hide [p] H') := fun b => by
  have g : ∀ o, hide [p] H b = some o → (∀ ps, o ≠ .tbl ps) → hide [p] H' b = some o := fun o h n => by
    obtain ⟨e1, e2⟩ := hide_of h
    have hb : b ≠ p := fun z => e2 (by rw [z]; simp)
    exact hid_of hb (e b o hb e1 n)
  exact ⟨(fun xs h => g _ h fun ps z => (nomatch z)), (fun xs h => g _ h fun ps z => (nomatch z)), (fun o u h => g _ h fun ps z => (nomatch z)), (fun h => g _ h fun ps z => (nomatch z))⟩
theorem sqL_keep {K : PySem.W.Frag} {H H' : Hp} (e : KeptQ H H') {a : Addr} {xs : List V} (h : SqL K H a xs) : SqL K H' a xs := by
  rcases h with (hs | ⟨o, hs⟩) | hs
  · exact .inl (.inl ((e _).1 _ hs))
  · exact .inl (.inr ⟨o, (e _).2.2.1 _ _ hs⟩)
  · exact .inr hs
theorem sqT_keep {K : PySem.W.Frag} {H H' : Hp} (e : KeptQ H H') {a : Addr} {xs : List V} (h : SqT K H a xs) : SqT K H' a xs := by
  rcases h with (hs | ⟨o, hs⟩) | hs
  · exact .inl (.inl ((e _).2.1 _ hs))
  · exact .inl (.inr ⟨o, (e _).2.2.1 _ _ hs⟩)
  · exact .inr hs
mutual
theorem Dn.keep {K : PySem.W.Frag} {H H' : Hp} (e : KeptQ H H') : ∀ (d : PyData) (v : V), Dn K H v d → Dn K H' v d
  | .none, _, h => by cases h; exact .non
  | .bool b, _, h => by cases h; exact .bl b
  | .int i, _, h => by cases h; exact .int i
  | .str x, _, h => by cases h; exact .str x
  | .list ds, _, h => by
    cases h with
    | lst hs n ha => exact .lst (sqL_keep e hs) n (DnAll.keep e ds _ ha)
  | .tuple ds, _, h => by
    cases h with
    | tup hs ha => exact .tup (sqT_keep e hs) (DnAll.keep e ds _ ha)
  | .dict _, _, h => by
    cases h with
    | emp h => exact .emp ((e _).2.2.2 h)
theorem DnAll.keep {K : PySem.W.Frag} {H H' : Hp} (e : KeptQ H H') : ∀ (ds : List PyData) (vs : List V), DnAll K H vs ds → DnAll K H' vs ds
  | [], _, h => by cases h; exact .nil
  | d :: ds, _, h => by
    cases h with
    | cons h1 h2 => exact .cons (Dn.keep e d _ h1) (DnAll.keep e ds _ h2)
end
theorem Nt.dc {p : Addr} {m : Int} {H H' : Hp} (h : Dc p m H) (e : ExtN H H') : Dc p m H' := by
  obtain ⟨g, s, n, h, r⟩ := h
  exact ⟨g, s, n, e _ _ h fun ps z => (nomatch z), r⟩
theorem Tabs.nxt {T : List (Addr × Str)} {p : Addr} {m : Int} {H H' : Hp} (t : Tabs T H) (dc : Dc p m H) (e : Nxt p H H') : Tabs T H' := fun q hq => by
  obtain ⟨ps, h1, h2, h3⟩ := t q hq
  obtain ⟨g, s, n, hp, _⟩ := dc
  have ne : q.1 ≠ p := fun z => by rw [z, hp] at h1; cases h1
  refine ⟨ps, e.get ne h1, h2, fun pos cv hc => ?_⟩
  obtain ⟨c, e1, e2⟩ := h3 pos cv hc
  have ne2 : c ≠ p := fun z => by rw [z, hp] at e2; cases e2
  exact ⟨c, e1, e.get ne2 e2⟩
end K01

set_option Elab.async false
set_option linter.all false
set_option maxRecDepth 100000
set_option maxHeartbeats 4000000
namespace K01
open PySem L2 PySem.KX StX
open PySem.W (AllAlike Sortable dataLe EachIs alike alikeAll)
/-- a row in order -/
def tidyR (l : RowN) : RowN := (l.1, tidyI l.2.1, tidyI l.2.2)
theorem put_row (l : RowN) : putD (rowD l) = rowD (tidyR l) := put_is _ _ _
theorem make_given {n : Int} {rows lr : List RowN} (h : GoodN n rows) (pm : (lr.map tidyR).Perm rows) : makeD n (lr.map rowD) = netOf n rows := by
  have nd : ((lr.map tidyR).map (·.1)).Nodup := (pm.map _).nodup_iff.mpr (rows_names h.asc)
  obtain ⟨r2, p2, a2, e2⟩ := sort_rows nd
  have e3 : r2 = rows := rows_eq a2 h.asc (p2.trans pm)
  subst e3
  show PyData.tuple [.int n, .tuple (((lr.map rowD).map putD).mergeSort (dataLe false id))] = _
  have e4 : (lr.map rowD).map putD = (lr.map tidyR).map rowD := by
    rw [List.map_map, List.map_map]
    exact List.map_congr_left fun l _ => put_row l
  rw [e4, e2]
  rfl
/-- the same row, its sides in any order, some numbers repeated -/
structure Loose (r l : RowN) : Prop where
  w : l.1 = r.1
  i : ∀ k, k ∈ l.2.1 ↔ k ∈ r.2.1
  o : ∀ k, k ∈ l.2.2 ↔ k ∈ r.2.2
  fi : l.2.1.length ≤ 6
  fo : l.2.2.length ≤ 6
theorem Loose.tidy {n : Int} {r l : RowN} (h : Loose r l) (g : GoodR n r) : tidyR l = r := by
  obtain ⟨x, as, bs⟩ := r
  obtain ⟨y, cs, ds⟩ := l
  have e1 : y = x := h.w
  have e2 : tidyI cs = as := Tidy.eq (ns := cs) (tidyI_ok cs) ⟨g.i.asc, fun k => (h.i k).symm⟩
  have e3 : tidyI ds = bs := Tidy.eq (ns := ds) (tidyI_ok ds) ⟨g.o.asc, fun k => (h.o k).symm⟩
  show (y, tidyI cs, tidyI ds) = _
  rw [e1, e2, e3]
theorem dnAll_perm {K : PySem.W.Frag} {H : Hp} {ys xs : List V} (p : ys.Perm xs) : ∀ {lr : List RowN}, DnAll K H xs (lr.map rowD) → ∃ lr' : List RowN, lr'.Perm lr ∧ DnAll K H ys (lr'.map rowD) := by
  induction p with
  | nil => intro lr h; exact ⟨lr, List.Perm.refl _, h⟩
  | cons x p ih =>
    intro lr h
    cases lr with
    | nil => cases h
    | cons l r =>
      cases h with
      | cons h1 h2 =>
        obtain ⟨r', p', h'⟩ := ih h2
        exact ⟨l :: r', p'.cons l, .cons h1 h'⟩
  | swap x y xs =>
    intro lr h
    cases lr with
    | nil => cases h
    | cons l r =>
      cases h with
      | cons h1 h2 =>
        cases r with
        | nil => cases h2
        | cons l2 r =>
          cases h2 with
          | cons h3 h4 => exact ⟨l2 :: l :: r, List.Perm.swap _ _ _, .cons h3 (.cons h1 h4)⟩
  | trans p1 p2 ih1 ih2 =>
    intro lr h
    obtain ⟨l2, q2, h2⟩ := ih2 h
    obtain ⟨l1, q1, h1⟩ := ih1 h2
    exact ⟨l1, q1.trans q2, h1⟩
mutual
/-- no lists, no dicts -/
def plainD : PyData → Bool
  | .list _ => false
  | .dict _ => false
  | .tuple xs => plainAll xs
  | _ => true
def plainAll : List PyData → Bool
  | [] => true
  | x :: xs => plainD x && plainAll xs
end
mutual
theorem plain_dn {K : PySem.W.Frag} {H : Hp} : ∀ (d : PyData) (v : V), plainD d = true → Dq K H v d → Dn K H v d
  | .none, _, _, h => by cases h; exact .non
  | .bool b, _, _, h => by cases h; exact .bl b
  | .int i, _, _, h => by cases h; exact .int i
  | .str x, _, _, h => by cases h; exact .str x
  | .list ds, _, p, _ => by simp [plainD] at p
  | .tuple ds, _, p, h => by
    cases h with
    | tup hs ha => exact .tup hs (plainAll_dn ds _ (by simpa only [plainD] using p) ha)
  | .dict _, _, p, _ => by simp [plainD] at p
theorem plainAll_dn {K : PySem.W.Frag} {H : Hp} : ∀ (ds : List PyData) (vs : List V), plainAll ds = true → DqAll K H vs ds → DnAll K H vs ds
  | [], _, _, h => by cases h; exact .nil
  | d :: ds, _, p, h => by
    simp only [plainAll, Bool.and_eq_true] at p
    cases h with
    | cons h1 h2 => exact .cons (plain_dn d _ p.1 h1) (plainAll_dn ds _ p.2 h2)
end
theorem plainAll_of {ds : List PyData} (h : ∀ d ∈ ds, plainD d = true) : plainAll ds = true := by
  induction ds with
  | nil => simp [plainAll]
  | cons x r ih =>
    simp only [plainAll, Bool.and_eq_true]
    exact ⟨h x List.mem_cons_self, ih fun d hd => h d (List.mem_cons_of_mem _ hd)⟩
theorem plain_ints0 (l : List Int) : plainAll (l.map PyData.int) = true :=
  plainAll_of fun d hd => by
    obtain ⟨i, _, rfl⟩ := List.mem_map.mp hd
    simp [plainD]
theorem plain_ints (l : List Int) : plainD (tupI l) = true := by
  simp only [plainD]
  exact plain_ints0 l
theorem plain_row (l : RowN) : plainD (rowD l) = true := by
  unfold rowD
  simp only [plainD, plainAll, plain_ints0, Bool.and_self]
theorem plain_net (n : Int) (rows : List RowN) : plainD (netOf n rows) = true := by
  unfold netOf
  simp only [plainD, plainAll, Bool.true_and, Bool.and_true]
  exact plainAll_of fun d hd => by
    obtain ⟨l, _, rfl⟩ := List.mem_map.mp hd
    exact plain_row l
mutual
theorem plain_nodict : ∀ d : PyData, plainD d = true → d.hasDict = false
  | .none, _ => rfl
  | .bool _, _ => rfl
  | .int _, _ => rfl
  | .str _, _ => rfl
  | .list _, p => by simp [plainD] at p
  | .tuple ds, p => by
    simp only [PyData.hasDict]
    exact plainAll_nodict ds (by simpa only [plainD] using p)
  | .dict _, p => by simp [plainD] at p
theorem plainAll_nodict : ∀ ds : List PyData, plainAll ds = true → PyData.hasDictAll ds = false
  | [], _ => rfl
  | d :: ds, p => by
    simp only [plainAll, Bool.and_eq_true] at p
    simp only [PyData.hasDictAll, plain_nodict d p.1, plainAll_nodict ds p.2, Bool.or_self]
end
theorem weight_ints {B : Nat} : ∀ {l : List Int}, (∀ k ∈ l, k.natAbs < 10 ^ 31) → PyData.weightAll (l.map .int) ≤ 201 * l.length
  | [], _ => by simp [PyData.weightAll]
  | k :: r, h => by
    have h1 := weight_int (h k List.mem_cons_self)
    have h2 := weight_ints (B := B) fun j hj => h j (List.mem_cons_of_mem k hj)
    simp only [List.map_cons, PyData.weightAll, List.length_cons]
    omega
/-- a row of a name and two sides of places -/
theorem row_md {k : Nat} {n : Int} {l : RowN} (hn : n ≤ 30) (hx : l.1.length ≤ 40 * (k + 1)) (ha : ∀ c ∈ l.1.cps.toList, c < 128) (hi : l.2.1.length ≤ 50 + k) (ho : l.2.2.length ≤ 50 + k) (h1 : ∀ j ∈ l.2.1, 0 ≤ j ∧ j < n) (h2 : ∀ j ∈ l.2.2, 0 ≤ j ∧ j < n) : Md k (40 * (k + 1) + 201 * (100 + 2 * k) + 3) 2 (rowD l) := by
  have hb : 30 ≤ bigN := by decide +kernel
  have oi : ∀ {s : List Int}, s.length ≤ 50 + k → (∀ j ∈ s, 0 ≤ j ∧ j < n) → Md k (201 * s.length) 1 (tupI s) := fun {s} hl hs => by
    refine Md.tup (by rw [List.length_map]; exact hl) (fun d hd => ?_) (weight_ints (B := 0) fun j hj => ?_) (fun d hd => ?_) (by omega)
    · obtain ⟨j, hj, rfl⟩ := List.mem_map.mp hd
      have := hs j hj
      simp only [okB, decide_eq_true_eq]
      refine Nat.le_trans (show j.natAbs ≤ 1 * bigN by omega) (Nat.mul_le_mul_right _ (by omega))
    · have := hs j hj
      exact Nat.lt_of_lt_of_le (show j.natAbs < 30 by omega) (by decide +kernel)
    · obtain ⟨j, hj, rfl⟩ := List.mem_map.mp hd
      simp [PyData.depth]
  have m1 := oi hi h1
  have m2 := oi ho h2
  have w1 := m1.wt
  have w2 := m2.wt
  refine Md.tup (by simp; omega) (fun d hd => ?_) ?_ (fun d hd => ?_) (by omega)
  · simp only [List.mem_cons, List.not_mem_nil, or_false] at hd
    rcases hd with rfl | rfl | rfl
    · simp only [okB, Bool.and_eq_true, decide_eq_true_eq]
      exact ⟨hx, List.all_eq_true.mpr fun c hc => decide_eq_true (ha c hc)⟩
    · exact m1.ok
    · exact m2.ok
  · have e : PyData.weight (.str l.1) = l.1.length := rfl
    simp only [PyData.weightAll, e]
    omega
  · simp only [List.mem_cons, List.not_mem_nil, or_false] at hd
    rcases hd with rfl | rfl | rfl
    · simp [PyData.depth]
    · have := m1.dp; omega
    · have := m2.dp; omega
theorem weight_rows {W : Nat} : ∀ {ds : List PyData}, (∀ d ∈ ds, d.weight ≤ W) → PyData.weightAll ds ≤ (W + 1) * ds.length
  | [], _ => by simp [PyData.weightAll]
  | d :: r, h => by
    have h1 := h d List.mem_cons_self
    have h2 := weight_rows fun e he => h e (List.mem_cons_of_mem d he)
    simp only [PyData.weightAll, List.length_cons, Nat.mul_succ]
    omega
/-- what is put in order of a few good steps -/
theorem make_md {k : Nat} {n : Int} {ds : List PyData} (hk : k ≤ 4) (hn0 : 0 ≤ n) (hn : n ≤ 30) (h : ds.all (tidyOk n) = true) (hok : ∀ d ∈ ds, okB k d = true) (hl : ds.length ≤ 6) : Md k 140000 4 (makeD n ds) ∧ plainD (makeD n ds) = true := by
  have hrow : ∀ d ∈ (ds.map putD).mergeSort (dataLe false id), Md k 22000 2 d ∧ plainD d = true := fun d hd => by
    obtain ⟨d0, hd0, rfl⟩ := List.mem_map.mp (List.mem_mergeSort.mp hd)
    obtain ⟨x, ns, ms, rfl, hx, h1, h2⟩ := tidy_is (List.all_eq_true.mp h d0 hd0)
    have o := hok _ hd0
    simp only [okB, okBAll, Bool.and_eq_true, decide_eq_true_eq, List.length_map] at o
    obtain ⟨_, ⟨ox1, ox2⟩, ⟨on1, _⟩, ⟨om1, _⟩, _⟩ := o
    rw [put_is]
    have t1 := tidyI_len ns
    have t2 := tidyI_len ms
    refine ⟨(row_md (k := k) (n := n) (l := (x, tidyI ns, tidyI ms)) hn ox1 (fun c hc => of_decide_eq_true (List.all_eq_true.mp ox2 c hc)) (by show (tidyI ns).length ≤ _; omega) (by show (tidyI ms).length ≤ _; omega) (fun j hj => h1 j (((tidyI_ok ns).mem j).mp hj)) (fun j hj => h2 j (((tidyI_ok ms).mem j).mp hj))).mono (by omega) (Nat.le_refl _), plain_row (x, tidyI ns, tidyI ms)⟩
  have hln : ((ds.map putD).mergeSort (dataLe false id)).length = ds.length := by rw [List.length_mergeSort, List.length_map]
  have hb : 30 ≤ bigN := by decide +kernel
  have mt : Md k 133000 3 (.tuple ((ds.map putD).mergeSort (dataLe false id))) := by
    refine Md.tup (by omega) (fun d hd => (hrow d hd).1.ok) ?_ (fun d hd => by have := (hrow d hd).1.dp; omega) (by omega)
    have := weight_rows (W := 22000) fun d hd => (hrow d hd).1.wt
    rw [hln] at this
    have h3 : (22000 + 1) * ds.length ≤ (22000 + 1) * 6 := Nat.mul_le_mul_left _ hl
    omega
  constructor
  · show Md k 140000 4 (.tuple [.int n, .tuple _])
    refine Md.tup (by simp; omega) (fun d hd => ?_) ?_ (fun d hd => ?_) (by omega)
    · simp only [List.mem_cons, List.not_mem_nil, or_false] at hd
      rcases hd with rfl | rfl
      · simp only [okB, decide_eq_true_eq]
        exact Nat.le_trans (show n.natAbs ≤ 1 * bigN by omega) (Nat.mul_le_mul_right _ (by omega))
      · exact mt.ok
    · have w := mt.wt
      have wi := weight_int (i := n) (Nat.lt_of_lt_of_le (show n.natAbs < 31 by omega) (by decide +kernel))
      simp only [PyData.weightAll]
      omega
    · simp only [List.mem_cons, List.not_mem_nil, or_false] at hd
      rcases hd with rfl | rfl
      · simp [PyData.depth]
      · have := mt.dp; omega
  · show plainD (.tuple [.int n, .tuple _]) = true
    simp only [plainD, plainAll, Bool.true_and, Bool.and_true]
    exact plainAll_of fun d hd => (hrow d hd).2
end K01

set_option Elab.async false
set_option linter.all false
set_option maxRecDepth 100000
set_option maxHeartbeats 4000000
namespace K01
open PySem L2 PySem.KX StX LamX
/-- a few values of moderate size -/
structure Few (k : Nat) (ds : List PyData) : Prop where
  k4 : k ≤ 4
  few : ds.length ≤ 6
  ok : ∀ d ∈ ds, okB k d = true
def goodB (n : Int) (ds : List PyData) : Bool := ds.all (tidyOk n) && netD (makeD n ds)
theorem intsD_of (ns : List Int) : intsD (tupI ns) = true := by
  show (ns.map PyData.int).all _ = true
  refine List.all_eq_true.mpr fun d hd => ?_
  obtain ⟨i, _, rfl⟩ := List.mem_map.mp hd
  rfl
theorem tidy_can {n : Int} {ds : List PyData} (h : ds.all (tidyOk n) = true) : ds.all canD = true := by
  refine List.all_eq_true.mpr fun d hd => ?_
  obtain ⟨x, ns, ms, rfl, hx, h1, h2⟩ := tidy_is (List.all_eq_true.mp h d hd)
  show (isNameD (.str x) && (intsD (tupI ns) && intsD (tupI ms))) = true
  rw [hx, intsD_of, intsD_of]
  rfl
theorem Few.smq {k : Nat} {ds : List PyData} (F : Few k ds) : smQAll ds = true := (okBAll_sm (k := k) (by have := F.k4; omega) ds (okBAll_iff.mpr F.ok)).1
theorem Few.sz {k : Nat} {ds : List PyData} (F : Few k ds) (i : Nat) (x : Str) (ns ms : List Int) (h : ds[i]? = some (.tuple [.str x, tupI ns, tupI ms])) : ns.length ≤ 60 ∧ ms.length ≤ 60 ∧ x.length ≤ 1000 := by
  have o := F.ok _ (List.mem_of_getElem? h)
  simp only [okB, okBAll, Bool.and_eq_true, decide_eq_true_eq, List.length_map] at o
  obtain ⟨_, ⟨ox1, ox2⟩, ⟨on1, _⟩, ⟨om1, _⟩, _⟩ := o
  have := F.k4
  omega
theorem tabs_same {T : List (Addr × Str)} {H H' : Hp} (t : Tabs T H) (s : Same H H') : Tabs T H' := fun q hq => (t q hq).ext s
theorem dice_ne {p a : Addr} {m : Int} {H H2 : Hp} (dc : Dc p m H) (s : Same H H2) (n : H2 a = none) : a ≠ p := (dc.same s).ne n
section
variable {K : PySem.W.Frag} {c : MetC} {T : List (Addr × Str)} {p : Addr} {m : Int} {H1 : Hp} {Q : VK} {k : Nat} {ds : List PyData}
theorem mkQ_good {n : Int} (F : Few k ds) (h2 : 2 ≤ n) (h30 : n ≤ 30) (dc : Dc p m H1) (t1 : Tabs T H1)
    (q1 : goodB n ds = true → ∀ (r : V) (a : Addr) (H2 : Hp), Same H1 H2 → Tabs T H2 → a ≠ p → H2 a = some (.lst [.str "returned", r]) → Dq K H2 r (makeD n ds) → Q (.ref a) H2)
    (q2 : goodB n ds = false → ∀ (a : Addr) (H2 : Hp), Same H1 H2 → Tabs T H2 → a ≠ p → H2 a = some (.lst [.str "net"]) → Q (.ref a) H2) : MkQ K c.cN c.cI H1 (metR Q) (metE K c Q) (.int n) ds := by
  have hi : intIn 2 30 (.int n) = true := by
    show (decide (2 ≤ n) && decide (n ≤ 30)) = true
    rw [decide_eq_true h2, decide_eq_true h30]
    rfl
  refine ⟨by have := F.few; omega, F.smq, F.sz, fun c1 => ?_, fun c1 c2 H' s => ?_, fun n' e c1 c2 c3 H' s => ?_, fun n' e c1 c2 c3 r H' s hr => ?_⟩
  · rw [hi] at c1; cases c1
  · refine .inr (.inr ⟨"net", rfl, .inl ⟨rfl, rfl⟩, fun a H2 s2 na l2 => q2 ?_ a H2 (s.trans s2) (tabs_same t1 (s.trans s2)) (dice_ne dc s na) l2⟩)
    cases hg : ds.all (tidyOk n) with
    | false => unfold goodB; rw [hg]; rfl
    | true => rw [tidy_can hg] at c2; cases c2
  · cases e
    refine .inr (.inr ⟨"net", rfl, .inl ⟨rfl, rfl⟩, fun a H2 s2 na l2 => q2 ?_ a H2 (s.trans s2) (tabs_same t1 (s.trans s2)) (dice_ne dc s na) l2⟩)
    unfold goodB
    rw [c3, Bool.and_false]
  · cases e
    intro a H2 s2 na l2
    refine q1 ?_ r a H2 (s.trans s2) (tabs_same t1 (s.trans s2)) (dice_ne dc s na) l2 (Dq.same s2 _ _ hr)
    unfold goodB
    rw [can_tidy c2 c3, c3]
    rfl
theorem mkQ_odd {dp : PyData} (F : Few k ds) (ho : intIn 2 30 dp = false) (hdp : dp.hasDict = false ∨ dp = .dict []) (sb : dp.showable = true) (dd : dp.depth ≤ 60) (sz : dp.shown.length ≤ sizeLine) (dc : Dc p m H1) (t1 : Tabs T H1)
    (q : ∀ (a : Addr) (H2 : Hp), Same H1 H2 → Tabs T H2 → a ≠ p → H2 a = some (.lst [.str "number", .str dp.shown]) → Q (.ref a) H2) : MkQ K c.cN c.cI H1 (metR Q) (metE K c Q) dp ds := by
  refine ⟨by have := F.few; omega, F.smq, F.sz, fun _ dx v' H' s n e h => ?_, fun c1 => ?_, fun n' e c1 => ?_, fun n' e c1 => ?_⟩
  · refine .inr (.inl ⟨dx, v', dp, rfl, rfl, e, ⟨?_, sb, dd, sz⟩, fun a H2 s2 na l2 => q a H2 (s.trans s2) (tabs_same t1 (s.trans s2)) (dice_ne dc s na) l2⟩)
    rcases hdp with hdp | hdp
    · exact .inl ⟨hdp, h⟩
    · subst hdp
      cases h with
      | emp h => exact .inr (.emp h)
  · rw [ho] at c1; cases c1
  · rw [ho] at c1; cases c1
  · rw [ho] at c1; cases c1
end
/-- a list of a word and a net -/
theorem ret_dq {K : PySem.W.Frag} {H : Hp} {a : Addr} {r : V} {d : PyData} (l : H a = some (.lst [.str "returned", r])) (h : Dq K H r d) : Dq K H (.ref a) (.list [.str "returned", d]) := .lst (SqL.of l) (.cons (.str _) (.cons h .nil))
theorem net_dq {K : PySem.W.Frag} {H : Hp} {a : Addr} (l : H a = some (.lst [.str "net"])) : Dq K H (.ref a) (.list [.str "net"]) := .lst (SqL.of l) (.cons (.str _) .nil)
structure Shw (d : PyData) : Prop where
  nd : d.hasDict = false
  sb : d.showable = true
  dp : d.depth ≤ 60
  sz : d.shown.length ≤ sizeLine
theorem net_shw : Shw (.list [.str "net"]) := ⟨by decide +kernel, by decide +kernel, by decide +kernel, by
  have := PyData.shown_le 64 (by decide) (.list [.str "net"]) (by decide +kernel)
  have e : PyData.weight (.list [.str "net"]) ≤ 100 := by decide +kernel
  rw [sizeLine_eq]
  omega⟩
theorem ret_shw {d : PyData} {k W D : Nat} (h : Md k W D d) (hk : k ≤ 7) (hW : W ≤ 150000) (hD : D ≤ 50) (pl : plainD d = true) : Shw (.list [.str "returned", d]) := by
  have m : Md k (W + 100) (D + 2) (.list [.str "returned", d]) := by
    refine Md.lst (by simp; omega) (fun x hx => ?_) ?_ (fun x hx => ?_) (by omega)
    · simp only [List.mem_cons, List.not_mem_nil, or_false] at hx
      rcases hx with rfl | rfl
      · simp only [okB, Bool.and_eq_true, decide_eq_true_eq]
        exact ⟨Nat.le_trans (show Str.length "returned" ≤ 40 by decide +kernel) (by omega), by decide +kernel⟩
      · exact h.ok
    · have := h.wt
      have e : PyData.weight (.str "returned") ≤ 50 := by decide +kernel
      simp only [PyData.weightAll]
      omega
    · simp only [List.mem_cons, List.not_mem_nil, or_false] at hx
      have := h.dp
      rcases hx with rfl | rfl
      · simp [PyData.depth]
      · omega
  have n1 := plain_nodict d pl
  have o := okB_sm (k := k) (by omega) _ m.ok
  refine ⟨?_, o.2.2.1, by have := m.dp; omega, m.shown (by omega) (by omega)⟩
  simp only [PyData.hasDict, PyData.hasDictAll, n1, Bool.or_self]
end K01

set_option Elab.async false
set_option linter.all false
set_option maxRecDepth 100000
set_option maxHeartbeats 4000000
namespace K01
open PySem L2 PySem.KX StX LamX PyProof.Rows
theorem lamPass {X : Cx} {A : Around} {outer : List Env} {s : Shared} {H : Hp} {E : XK} {scope : Scope} {f c' : Addr} : Passes (L2.CX X.prog X.w) (lamCx X A outer s H E scope f c') E := passes_call (takes_of rfl rfl rfl rfl) fun _ _ _ _ h => h
/-- a def called in a lambda's body -/
theorem pe_lamX {X : Cx} {A : Around} {outer : List Env} {s : Shared} {H : Hp} {E : XK} {scope : Scope} {f c' : Addr} {k j : Nat} {ps : List Str} {sp : Sp} {x : Str} {p pos : Pos} {e : Expr} {es : List Expr} {t : TA} (O : Own X.prog X.w X.K X.mg X.base (L2.CX X.prog X.w) x k ps sp) (hr : RoomG j (A.deeper (lamEnv X scope s.heap.objs.size f c'))) (ha : PA (lamCx X A outer s H E scope f c') (e :: es) t) (hk : k ≤ j := by decide) (hg : Gl (lamCx X A outer s H E scope f c') x := by rfl) (hdb : (x == ("__debug__" : Str)) = false := by decide)
    (he : starEach (e :: es) (lamEnv X scope s.heap.objs.size f c') = (false, eval e (lamEnv X scope s.heap.objs.size f c')) :: starEach es (lamEnv X scope s.heap.objs.size f c') := by rfl) (hpl : (backTo pos (starEach es (lamEnv X scope s.heap.objs.size f c'))).any (·.1) = false := by rfl) :
    PE (lamCx X A outer s H E scope f c') (.Call (.Name x p) (e :: es) [] pos) (tCall sp [] E t) :=
  pe_ownX (X := lamCx X A outer s H E scope f c') (E := E) O hr (lamPass (X := X)) ha hk hg hdb he hpl
/-- a tuple of data, all but the dice -/
def TupF (K : PySem.W.Frag) (p : Addr) (H : Hp) (a : Addr) (ds : List PyData) : Prop := ∃ xs, SqT K (hide [p] H) a xs ∧ DnAll K (hide [p] H) xs ds
theorem TupF.nt {K : PySem.W.Frag} {p : Addr} {H H' : Hp} {a : Addr} {ds : List PyData} (e : Nt p H H') (h : TupF K p H a ds) : TupF K p H' a ds := by
  obtain ⟨xs, h1, h2⟩ := h
  exact ⟨xs, sqT_keep e.keep h1, DnAll.keep e.keep _ _ h2⟩
theorem DnAll.dq {K : PySem.W.Frag} {H : Hp} : ∀ {vs : List V} {ds : List PyData}, DnAll K H vs ds → DqAll K H vs ds
  | _, _, .nil => .nil
  | _, _, .cons h1 h2 => .cons (Dn.dq _ _ h1) (DnAll.dq h2)
theorem TupF.get {K : PySem.W.Frag} {p : Addr} {H : Hp} {a : Addr} {ds : List PyData} (h : TupF K p H a ds) : ∃ xs, SqT K H a xs ∧ DnAll K (hide [p] H) xs ds ∧ DqAll K H xs ds := by
  obtain ⟨xs, h1, h2⟩ := h
  exact ⟨xs, hide_sub.sqT h1, h2, DqAll.same hide_sub _ _ h2.dq⟩
theorem shp_two {a b : Str} (h1 : a.cps.size ≤ 20 ∧ PyData.strOk a = true) (h2 : PyData.strOk b = true) : SeqAt.shaped (.list [.str a, .str b]) = true := by
  unfold SeqAt.shaped
  simp only [PyData.canLay0, PyData.canLayAll0, h1.2, h2, Bool.and_true, Bool.and_eq_true, decide_eq_true_eq]
  refine ⟨trivial, ?_⟩
  simp [PyData.depth, PyData.depthAll]
/-! the odd numbers of places -/
def odds : List PyData := [.int 1, .int 0, .int 31, .int (-2), .bool true, .none, .str "2", .tuple [.int 2], .int (10 ^ Int.toNat 39), .list [], .dict []]
def oddB (d : PyData) : Bool := !intIn 2 30 d && (decide (d.depth ≤ 10) && (smQ d && (d.showable && (PyData.leavesShort 64 d && decide (d.weight ≤ 300)))))
structure OddOk (d : PyData) : Prop where
  out : intIn 2 30 d = false
  dp : d.depth ≤ 10
  sm : smQ d = true
  nd : d.hasDict = false ∨ d = .dict []
  sb : d.showable = true
  sz : d.shown.length ≤ sizeLine
  so : PyData.strOk d.shown = true
theorem odd_ok (d : PyData) (h : d ∈ odds) : OddOk d := by
  have e : odds.all oddB = true := by decide +kernel
  have e2 : odds.all (fun d => PyData.strOk d.shown) = true := by decide +kernel
  have b := List.all_eq_true.mp e d h
  unfold oddB at b
  simp only [Bool.and_eq_true, Bool.not_eq_true', decide_eq_true_eq] at b
  obtain ⟨b1, b2, b3, b4, b5, b6⟩ := b
  refine ⟨b1, b2, b3, ?_, b4, ?_, List.all_eq_true.mp e2 d h⟩
  · simp only [odds, List.mem_cons, List.not_mem_nil, or_false] at h
    rcases h with rfl | rfl | rfl | rfl | rfl | rfl | rfl | rfl | rfl | rfl | rfl <;> first | exact .inl rfl | exact .inr rfl
  · have := PyData.shown_le 64 (by decide) d b5
    rw [sizeLine_eq]
    omega
abbrev s_law_makes_right : Stmt := top 44
abbrev N_mr : List Str := ["dice", "net", "places", "steps", "given", "at", "other", "changed", "some", "due", "told", "odd", "name", "inputs", "outputs"]
theorem sc_law_makes_right : FnScope N_mr ["dice", "net"] (defScope s_law_makes_right) := ⟨rfl, rfl, rfl, by decide +kernel, rfl, by decide +kernel, by decide +kernel⟩
abbrev X_mr (P : Program) (w : World) (K : PySem.W.Frag) (mg : Str → Option Value) (base : Heap) (f : Addr) (cdv : Value) (A : Around) (outer : List Env) (s : Shared) (H : Hp) (E : XK) : Cx := (cxOf CX0 P w K mg base N_mr "_law_makes_right" (defScope s_law_makes_right) f cdv A outer s H E).nox
abbrev qMr : Str := "_law_makes_right.<locals>.<lambda>"
section
variable {P : Program} {w : World} {K : PySem.W.Frag} {mg : Str → Option Value} {base : Heap} {f : Addr} {cdv : Value} {A : Around} {outer : List Env} {s : Shared} {H0 : Hp} {E0' : XK} {c : MetC} {T : List (Addr × Str)}
theorem mr_odd (TA : TxtA mg) (TX : TxtX mg) (M : MetK K mg c) (LK : LamK base mg cdv T qMr) (hr : RoomG 17 (A.deeper (envOfC "_law_makes_right" (defScope s_law_makes_right) s.heap.objs.size f cdv)))
    (O_one : Own P w K mg base CX0 "_law_one_of" 2 ["dice", "items"] spOneD) (O_made : Own P w K mg base (L2.CX P w) "_law_made" 15 ["places", "given"] (spMade K c.cN c.cI))
    {p : Addr} {m : Int} {H : Hp} {Q : VK} {a4 a7 : Addr} {o1 o2 o3 o5 o6 o8 o9 o10 o11 o12 o13 o14 : Option V} {d4 d7 : List PyData} (dc : Dc p m H) (hm : m < 2 ^ 30) (tb : Tabs T H) (h4 : TupF K p H a4 d4) (h7 : TupF K p H a7 d7) (f4 : Few 1 d4) (f7 : Few 1 d7)
    (q : ∀ H', Nt p H H' → Tabs T H' → Dc p (m + 1) H' → Q (.bl true) H') :
    ∃ t, PSs (X_mr P w K mg base f cdv A outer s H0 E0') ((defBody s_law_makes_right).drop 7) t ∧ t { nx := fun _ H' => Q .non H', rt := Q } [some (.ref p), o1, o2, o3, some (.ref a4), o5, o6, some (.ref a7), o8, o9, o10, o11, o12, o13, o14] H := by
  have nd := sc_law_makes_right.nd
  have hrg : (A.deeper (envOfC "_law_makes_right" (defScope s_law_makes_right) s.heap.objs.size f cdv)).guards = some [] := hr.g
  have hrep : mg "repr" = none := M.txt.repr
  have hL : ∀ sc, lamSB (defScope s_law_makes_right) sc = true → LamS (X_mr P w K mg base f cdv A outer s H0 E0').env.scope sc := fun _ h => lamS_by h
  refine ⟨_, (pss_cons (ps_set (i := 11) nd rfl (Or.inr rfl) (pe_own O_one hr (pa_cons (av 0) (pa_cons (pe_lstS (pa_cons pe_int (pa_cons pe_int (pa_cons pe_int (pa_cons (pe_un un_neg pe_int) (pa_cons pe_bl (pa_cons pe_non (pa_cons pe_str (pa_cons (pe_tupS (pa_cons pe_int pa_nil)) (pa_cons (pe_op op_powA pe_int pe_int) (pa_cons (pe_lstN pa_nil) (pa_cons pe_dnewK pa_nil)))))))))))) pa_nil)) (by decide)))
      (pss_cons (ps_for PassesOwn.never rfl (pi_tup (pe_tupS (pa_cons (av 4) (pa_cons (av 7) (pa_cons (pe_tupS pa_nil) pa_nil))))) (pg_name (i := 8) nd rfl (Or.inr rfl)) (pss_one (ps_if (pt_cmpA (op_neA hr.units64)
        (pe_met M LK hr (hL _ (by decide +kernel)) rfl (fun _ _ _ _ _ => rfl) (fun A outer s H E f c' hr2 => pe_lamX O_made hr2 (pa_cons (av 11) (pa_cons (av 8) pa_nil)) (by decide)))
        (pe_lstS (pa_cons pe_str (pa_cons (pe_callB (call_reprW hr.units64 hrg) (by rfl) hrep (by decide +kernel) (pa_cons (av 11) pa_nil)) pa_nil)))) (pss_one (ps_ret pe_bl)) pss_nil)))
      (pss_one (ps_ret pe_bl)))), ?_⟩
  refine ⟨2, rfl, ?_⟩
  refine ⟨by simp, fun T1 H1 s1 n1 l1 => ?_⟩
  refine ⟨pow_ok (by decide) (by decide) (by decide) (by decide), ?_⟩
  refine ⟨by simp, fun L1 H2 b2 s2 n2 l2 => ?_⟩
  intro D1 nD
  have s3 : Same H2 (upd H2 D1 (.dK [])) := (Same.refl _).new nD
  have l3 : upd H2 D1 (.dK []) D1 = some (.dK []) := upd_same
  generalize upd H2 D1 (.dK []) = H3 at s3 l3
  refine ⟨by simp, fun S H4 s4 n4 l4 => ?_⟩
  have e1 : T1 ≠ p := dc.ne n1
  have e2 : L1 ≠ p := (dc.same s1).ne n2
  have e3 : D1 ≠ p := (dc.same (s1.trans s2)).ne nD
  have e4 : S ≠ p := (dc.same ((s1.trans s2).trans s3)).ne n4
  have s14 := ((s1.trans s2).trans s3).trans s4
  refine ⟨p, S, m, _, rfl, dc.same s14, l4, hm, e4, by simp, by simp, fun i v H5 hi dc5 q5 => ?_⟩
  have hall : DnAll K (hide [p] H4) [.int 1, .int 0, .int 31, .int (-2), .bl true, .non, .str "2", .ref T1, .int (10 ^ Int.toNat 39), .ref L1, .ref D1] odds :=
    .cons (.int _) (.cons (.int _) (.cons (.int _) (.cons (.int _) (.cons (.bl _) (.cons .non (.cons (.str _) (.cons (.tup (SqT.of (hid_of e1 (((s2.trans s3).trans s4) _ _ l1))) (.cons (.int _) .nil)) (.cons (.int _) (.cons (.lst (SqL.of (hid_of e2 ((s3.trans s4) _ _ l2))) b2 .nil) (.cons (.emp (hid_of e3 (s4 _ _ l3))) .nil))))))))))
  obtain ⟨d, hd, hdn⟩ := hall.get hi
  have ok := odd_ok d (List.mem_of_getElem? hd)
  have nt5 : Nt p H4 H5 := Nt.of (Nxt.of_eq q5)
  have hv5 := Dn.keep nt5.keep _ _ hdn
  have nt05 : Nt p H H5 := (Nt.same s14).trans nt5
  have t5 : Tabs T H5 := Tabs.nxt (tabs_same tb s14) (dc.same s14) (Nxt.of_eq q5)
  have h45 := h4.nt nt05
  have h75 := h7.nt nt05
  refine ⟨by simp, fun Z H6 s6 n6 l6 => ?_⟩
  refine ⟨by simp, fun F7 H7 s7 n7 l7 => ?_⟩
  have s57 := s6.trans s7
  have nZ : Z ≠ p := dc5.ne n6
  have nF : F7 ≠ p := (dc5.same s6).ne n7
  have hz7 : TupF K p H7 Z [] := ⟨_, SqT.of (hid_of nZ (s7 _ _ l6)), .nil⟩
  have h47 := h45.nt (Nt.same s57)
  have h77 := h75.nt (Nt.same s57)
  have hv7 := Dn.keep (Nt.same s57 : Nt p H5 H7).keep _ _ hv5
  have hF7 : SqT K (hide [p] H7) F7 [.ref a4, .ref a7, .ref Z] := SqT.of (hid_of nF l7)
  refine ⟨F7, rfl, ⟨_, SqT.of l7⟩, ?_⟩
  refine for_it (walk_tup (xs := [.ref a4, .ref a7, .ref Z])) (fun _ σ H' => ∃ o, σ = [some (.ref p), o1, o2, o3, some (.ref a4), o5, o6, some (.ref a7), o, o9, o10, some v, o12, o13, o14] ∧ Nt p H7 H' ∧ Tabs T H' ∧ Dc p (m + 1) H')
    ⟨o8, rfl, Nt.refl, tabs_same t5 s57, dc5.same s57⟩ (fun _ _ H' _ ⟨_, _, nt, _, _⟩ => hide_sub.sqT (sqT_keep nt.keep hF7)) ?_ ?_
  · rintro i x σ H8 H9 hi ⟨o, rfl, nt8, t8, dc8⟩ ⟨rfl, hx⟩
    obtain ⟨a, ds, rfl, fds, hds⟩ : ∃ (a : Addr) (ds : List PyData), x = .ref a ∧ Few 1 ds ∧ TupF K p H9 a ds := by
      have := List.mem_of_getElem? hx
      simp only [List.mem_cons, List.not_mem_nil, or_false] at this
      rcases this with rfl | rfl | rfl
      · exact ⟨_, _, rfl, f4, h47.nt nt8⟩
      · exact ⟨_, _, rfl, f7, h77.nt nt8⟩
      · exact ⟨_, _, rfl, ⟨by decide, by simp, fun y hy => absurd hy List.not_mem_nil⟩, hz7.nt nt8⟩
    have hv9 := Dn.keep nt8.keep _ _ hv7
    refine ⟨t8, fun H10 eN t10 => ?_⟩
    have nt10 : Nt p H9 H10 := Nt.ext eN
    obtain ⟨xs, hx1, hx2, hx3⟩ := (hds.nt nt10).get
    have hv10 := Dn.keep nt10.keep _ _ hv9
    have dc10 := Nt.dc dc8 eN
    refine ⟨v, a, d, xs, ds, rfl, ⟨Dq.same hide_sub _ _ (Dn.dq _ _ hv10), ok.sm⟩, ok.dp, hx1, hx3, fds.few, mkQ_odd fds ok.out ok.nd ok.sb (by have := ok.dp; omega) ok.sz dc10 t10 fun b H11 s11 t11 nb l11 => ?_⟩
    have hv11 := Dn.keep (Nt.same s11 : Nt p H10 H11).keep _ _ hv10
    refine ⟨v, d, rfl, .inr (Dn.same hide_sub _ _ hv11), ok.sb, by have := ok.dp; omega, ok.sz, ?_⟩
    refine ⟨by simp, fun b2 H12 s12 n12 l12 => ?_⟩
    have shp : SeqAt.shaped (.list [.str "number", .str d.shown]) = true := shp_two ⟨by decide +kernel, by decide +kernel⟩ ok.so
    refine ⟨.list [.str "number", .str d.shown], .list [.str "number", .str d.shown], .lst (SqL.of (s12 _ _ l11)) (.cons (.str _) (.cons (.str _) .nil)), .lst (SqL.of l12) (.cons (.str _) (.cons (.str _) .nil)), shp, shp, ?_⟩
    have ee : PyData.eqv (.list [.str "number", .str d.shown]) (.list [.str "number", .str d.shown]) = true := (eqv_strs (ns := ["number", d.shown]) (ms := ["number", d.shown])).mpr rfl
    refine ite2 (fun z => absurd z (by rw [ee]; decide)) (fun _ => ?_)
    have s1112 := s11.trans s12
    exact ⟨_, rfl, nt8.trans (nt10.trans (Nt.same s1112)), tabs_same t11 s12, dc10.same s1112⟩
  · rintro σ H8 ⟨o, rfl, nt8, t8, dc8⟩
    exact q H8 (nt05.trans ((Nt.same s57).trans nt8)) t8 dc8
end
end K01

set_option Elab.async false
set_option linter.all false
set_option maxRecDepth 100000
set_option maxHeartbeats 4000000
namespace K01
open PySem L2 PySem.KX StX LamX PyProof.Rows
theorem cutV_one {xs : List V} {j : Nat} (h : j < xs.length) : cutV xs (some (j : Int)) (some ((j : Int) + 1)) = (xs.drop j).take 1 := by
  unfold cutV
  rw [show (j : Int) + 1 = ((j + 1 : Nat) : Int) by omega, HT.sIx_nat, HT.sIx_nat, Nat.min_eq_left (by omega), Nat.min_eq_left (by omega)]
  congr 1
  omega
theorem dc_sqT {K : PySem.W.Frag} {p r : Addr} {m : Int} {H : Hp} {ys : List V} (dc : Dc p m H) (h : SqT K H r ys) : SqT K (hide [p] H) r ys := by
  obtain ⟨g, s, n, hp, _⟩ := dc
  exact sqT_hide h hp
mutual
theorem plain_hide {K : PySem.W.Frag} {p : Addr} {m : Int} {H : Hp} (dc : Dc p m H) : ∀ (d : PyData) (v : V), plainD d = true → Dq K H v d → Dn K (hide [p] H) v d
  | .none, _, _, h => by cases h; exact .non
  | .bool b, _, _, h => by cases h; exact .bl b
  | .int i, _, _, h => by cases h; exact .int i
  | .str x, _, _, h => by cases h; exact .str x
  | .list ds, _, p, _ => by simp [plainD] at p
  | .tuple ds, _, p, h => by
    cases h with
    | tup hs ha => exact .tup (dc_sqT dc hs) (plainAll_hide dc ds _ (by simpa only [plainD] using p) ha)
  | .dict _, _, p, _ => by simp [plainD] at p
theorem plainAll_hide {K : PySem.W.Frag} {p : Addr} {m : Int} {H : Hp} (dc : Dc p m H) : ∀ (ds : List PyData) (vs : List V), plainAll ds = true → DqAll K H vs ds → DnAll K (hide [p] H) vs ds
  | [], _, _, h => by cases h; exact .nil
  | d :: ds, _, p, h => by
    simp only [plainAll, Bool.and_eq_true] at p
    cases h with
    | cons h1 h2 => exact .cons (plain_hide dc d _ p.1 h1) (plainAll_hide dc ds _ p.2 h2)
end
/-- a row as it is handed to make_net -/
structure RowL (n : Int) (l : RowN) : Prop where
  w : WordS l.1
  i : ∀ k ∈ l.2.1, 0 ≤ k ∧ k < n
  o : ∀ k ∈ l.2.2, 0 ≤ k ∧ k < n
  fi : l.2.1.length ≤ 6
  fo : l.2.2.length ≤ 6
theorem RowL.md {n : Int} {l : RowN} (h : RowL n l) (hn : n ≤ 30) : Md 0 22000 2 (rowD l) := by
  refine (row_md (k := 0) (n := n) hn (by
    have := h.w.eight
    have e : l.1.length = l.1.cps.toList.length := by show l.1.cps.size = _; simp
    omega) (fun c hc => ?_) (by have := h.fi; omega) (by have := h.fo; omega) h.i h.o).mono (by omega) (Nat.le_refl _)
  have := List.all_eq_true.mp h.w.low c hc
  have := lowL_iff.mp this
  omega
theorem rows_few {n : Int} {lr : List RowN} (hl : ∀ l ∈ lr, RowL n l) (hn : n ≤ 30) (h5 : lr.length ≤ 5) : Few 0 (lr.map rowD) := by
  refine ⟨by omega, by rw [List.length_map]; omega, fun d hd => ?_⟩
  obtain ⟨l, h, rfl⟩ := List.mem_map.mp hd
  exact ((hl l h).md hn).ok
theorem Few.up {k : Nat} {ds : List PyData} (F : Few k ds) (h : k + 1 ≤ 4) : Few (k + 1) ds := ⟨h, F.few, fun d hd => okB_up _ (F.ok d hd)⟩
end K01

set_option Elab.async false
set_option linter.all false
set_option maxRecDepth 100000
set_option maxHeartbeats 4000000
namespace K01
open PySem L2 PySem.KX StX LamX PyProof.Rows
theorem pss_any {X : Cx} {rest : List Stmt} : PSs X rest (fun D σ H => ∃ t, PSs X rest t ∧ t D σ H) := ⟨fun pins s σ H D I ⟨t, h, q⟩ => h.run pins s σ H D I q⟩
section
variable {P : Program} {w : World} {K : PySem.W.Frag} {mg : Str → Option Value} {base : Heap} {f : Addr} {cdv : Value} {A : Around} {outer : List Env} {s : Shared} {H0 : Hp} {E0' : XK} {c : MetC} {T : List (Addr × Str)}
theorem mr_loop (TA : TxtA mg) (TX : TxtX mg) (M : MetK K mg c) (LK : LamK base mg cdv T qMr) (hr : RoomG 17 (A.deeper (envOfC "_law_makes_right" (defScope s_law_makes_right) s.heap.objs.size f cdv)))
    (O_one : Own P w K mg base CX0 "_law_one_of" 2 ["dice", "items"] spOneD) (O_made : Own P w K mg base (L2.CX P w) "_law_made" 15 ["places", "given"] (spMade K c.cN c.cI)) (O_tidied : Own P w K mg base CX0 "_law_tidied" 4 ["places", "given"] (spTidied K))
    {p : Addr} {m : Int} {H : Hp} {Q : VK} {a4 a7 : Addr} {n : Int} {i4 j4 : Nat} {o1 o3 o8 o9 o10 o11 o12 o13 o14 : Option V} {lr : List RowN} {d7 : List PyData} (dc : Dc p m H) (hm : m < 2 ^ 30) (tb : Tabs T H) (h2 : 2 ≤ n) (h30 : n ≤ 30) (h4 : TupF K p H a4 (lr.map rowD)) (hl : ∀ l ∈ lr, RowL n l) (h5 : lr.length ≤ 5) (hi4 : i4 < lr.length) (hj4 : j4 < lr.length) (h7 : TupF K p H a7 d7) (f7 : Few 1 d7)
    (q : ∀ H', Nt p H H' → Tabs T H' → Dc p (m + 1) H' → Q (.bl true) H') :
    ∃ t, PSs (X_mr P w K mg base f cdv A outer s H0 E0') ((defBody s_law_makes_right).drop 6) t ∧ t { nx := fun _ H' => Q .non H', rt := Q } [some (.ref p), o1, some (.int n), o3, some (.ref a4), some (.int (i4 : Nat)), some (.int (j4 : Nat)), some (.ref a7), o8, o9, o10, o11, o12, o13, o14] H := by
  have nd := sc_law_makes_right.nd
  have hrg : (A.deeper (envOfC "_law_makes_right" (defScope s_law_makes_right) s.heap.objs.size f cdv)).guards = some [] := hr.g
  have hrep : mg "repr" = none := M.txt.repr
  have hL : ∀ sc, lamSB (defScope s_law_makes_right) sc = true → LamS (X_mr P w K mg base f cdv A outer s H0 E0').env.scope sc := fun _ h => lamS_by h
  refine ⟨_, (pss_cons (ps_for PassesOwn.never rfl (pi_tup (pe_tupS (pa_cons (av 7) (pa_cons (pe_op op_addS (av 4) (pe_slice sl_tupS (av 4) (po_some (av 6)) (po_some (pe_op op_addA (av 6) pe_int)))) (pa_cons (pe_slice sl_tupS (av 4) (po_some pe_int) po_none) (pa_cons (pe_op op_addS (pe_op op_addS (pe_slice sl_tupS (av 4) po_none (po_some (av 5))) (pe_tupS (pa_cons (pe_callTy call_lstN (by rfl) TX.list (by decide +kernel) (pa_cons (pe_ixA (av 4) (av 5)) pa_nil)) pa_nil))) (pe_slice sl_tupS (av 4) (po_some (pe_op op_addA (av 5) pe_int)) po_none)) pa_nil)))))) (pg_name (i := 8) nd rfl (Or.inr rfl))
        (pss_cons (ps_set (i := 9) nd rfl (Or.inl rfl) (pe_own O_tidied hr (pa_cons (av 2) (pa_cons (av 8) pa_nil)) (by decide)))
        (pss_cons (ps_set (i := 10) nd rfl (Or.inl rfl) (pe_met M LK hr (hL _ (by decide +kernel)) rfl (fun _ _ _ _ _ => rfl) (fun A outer s H E f c' hr2 => pe_lamX O_made hr2 (pa_cons (av 2) (pa_cons (av 8) pa_nil)) (by decide))))
        (pss_one (ps_if (pt_cmpA (op_neA hr.units64) (pe_callB (call_reprW hr.units64 hrg) (by rfl) hrep (by decide +kernel) (pa_cons (av 10) pa_nil)) (pe_callB (call_reprW hr.units64 hrg) (by rfl) hrep (by decide +kernel) (pa_cons (pe_ifExp (pt_cmpA op_isN (av 9) pe_non) (pe_lstS (pa_cons pe_str pa_nil)) (pe_lstS (pa_cons pe_str (pa_cons (av 9) pa_nil)))) pa_nil))) (pss_one (ps_ret pe_bl)) pss_nil)))))
      pss_any), ?_⟩
  obtain ⟨xs4, hq4, hx4⟩ := h4
  have hlen := hx4.length
  rw [List.length_map] at hlen
  have hd4 := hide_sub.sqT hq4
  obtain ⟨x4, hix⟩ : ∃ x, xs4[i4]? = some x := ⟨_, List.getElem?_eq_getElem (by omega)⟩
  obtain ⟨d4, hd4i, hdn4⟩ := hx4.get hix
  obtain ⟨l4, hl4, rfl⟩ : ∃ l, lr[i4]? = some l ∧ rowD l = d4 := by
    rw [List.getElem?_map] at hd4i
    cases e : lr[i4]? with
    | none => rw [e] at hd4i; cases hd4i
    | some l => rw [e] at hd4i; exact ⟨l, rfl, Option.some.inj hd4i⟩
  have hL4 := hl l4 (List.mem_of_getElem? hl4)
  obtain ⟨t4, ys4, rfl, ht4, hy4⟩ : ∃ t ys, x4 = .ref t ∧ SqT K (hide [p] H) t ys ∧ DnAll K (hide [p] H) ys [.str l4.1, tupI l4.2.1, tupI l4.2.2] := by
    have h : Dn K (hide [p] H) x4 (.tuple [.str l4.1, tupI l4.2.1, tupI l4.2.2]) := hdn4
    cases h with
    | tup h1 h2 => exact ⟨_, _, rfl, h1, h2⟩
  -- the four
  refine ⟨(j4 : Int), rfl, (j4 : Int) + 1, rfl, a4, xs4, rfl, hd4, fun ra H1 s1 hra => ?_⟩
  rw [cutV_one (by omega)] at hra
  refine .inr ⟨_, _, s1.sqT hd4, hra, by simp; omega, fun rb H2 s2 hrb => ?_⟩
  have s02 := s1.trans s2
  refine ⟨1, rfl, a4, xs4, rfl, s02.sqT hd4, fun rc H3 s3 hrc => ?_⟩
  rw [show (1 : Int) = ((1 : Nat) : Int) from rfl, cutV_from] at hrc
  have s03 := s02.trans s3
  refine ⟨(i4 : Int), rfl, a4, xs4, rfl, s03.sqT hd4, fun rd H4 s4 hrd => ?_⟩
  rw [cutV_to] at hrd
  have s04 := s03.trans s4
  refine .inr ⟨xs4, .ref t4, s04.sqT hd4, atI_nat hix, ?_⟩
  refine ⟨t4, ys4, rfl, s04.sqT (hide_sub.sqT ht4), fun q5 H5 b5 s5 n5 l5 => ?_⟩
  have s05 := s04.trans s5
  refine ⟨by simp, fun q6 H6 s6 n6 l6 => ?_⟩
  have s06 := s05.trans s6
  refine .inr ⟨_, _, (s5.trans s6).sqT hrd, SqT.of l6, by simp; omega, fun re H7 s7 hre => ?_⟩
  have s07 := s06.trans s7
  refine ⟨(i4 : Int) + 1, rfl, a4, xs4, rfl, s07.sqT hd4, fun rf H8 s8 hrf => ?_⟩
  rw [show (i4 : Int) + 1 = ((i4 + 1 : Nat) : Int) by omega, cutV_from] at hrf
  have s08 := s07.trans s8
  refine .inr ⟨_, _, s8.sqT hre, hrf, by simp; omega, fun rg H9 s9 hrg9 => ?_⟩
  have s09 := s08.trans s9
  refine ⟨by simp, fun F HF sF nF lF => ?_⟩
  have s0F := s09.trans sF
  have s69 := (s7.trans s8).trans s9
  have s6F := s69.trans sF
  -- what they hold
  have dcF := dc.same s0F
  have ntF : Nt p H HF := Nt.same s0F
  have tF : Tabs T HF := tabs_same tb s0F
  have hx4F := DnAll.keep ntF.keep _ _ hx4
  have hy4F := DnAll.keep ntF.keep _ _ hy4
  have fl := rows_few hl h30 h5
  have e5 : q5 ≠ p := (dc.same s04).ne n5
  have hB : TupF K p HF rb (lr.map rowD ++ ((lr.map rowD).drop j4).take 1) := ⟨_, dc_sqT dcF (((((((s3.trans s4).trans s5).trans s6).trans s69).trans sF)).sqT hrb), hx4F.append ((hx4F.drop j4).take 1)⟩
  have hC : TupF K p HF rc ((lr.map rowD).drop 1) := ⟨_, dc_sqT dcF ((((s4.trans s5).trans s6).trans s6F).sqT hrc), hx4F.drop 1⟩
  have hD : TupF K p HF rg ((lr.map rowD).take i4 ++ [.list [.str l4.1, tupI l4.2.1, tupI l4.2.2]] ++ (lr.map rowD).drop (i4 + 1)) :=
    ⟨_, dc_sqT dcF (sF.sqT hrg9), ((hx4F.take i4).append (.cons (.lst (SqL.of (hid_of e5 ((s6.trans s6F) _ _ l5))) b5 hy4F) .nil)).append (hx4F.drop (i4 + 1))⟩
  have fB : Few 1 (lr.map rowD ++ ((lr.map rowD).drop j4).take 1) := by
    refine Few.up ⟨by decide, by simp; omega, fun d hd => ?_⟩ (by decide)
    rcases List.mem_append.mp hd with z | z
    · exact fl.ok d z
    · exact fl.ok d (List.mem_of_mem_drop (List.mem_of_mem_take z))
  have fC : Few 1 ((lr.map rowD).drop 1) := Few.up ⟨by decide, by simp; omega, fun d hd => fl.ok d (List.mem_of_mem_drop hd)⟩ (by decide)
  have fD : Few 1 ((lr.map rowD).take i4 ++ [.list [.str l4.1, tupI l4.2.1, tupI l4.2.2]] ++ (lr.map rowD).drop (i4 + 1)) := by
    refine Few.up ⟨by decide, by simp; omega, fun d hd => ?_⟩ (by decide)
    rcases List.mem_append.mp hd with z | z
    · rcases List.mem_append.mp z with z | z
      · exact fl.ok d (List.mem_of_mem_take z)
      · rw [List.mem_singleton.mp z]
        exact (hL4.md h30).ok
    · exact fl.ok d (List.mem_of_mem_drop z)
  have h7F := h7.nt ntF
  have nFp : F ≠ p := (dc.same s09).ne nF
  have hFF : SqT K (hide [p] HF) F [.ref a7, .ref rb, .ref rc, .ref rg] := SqT.of (hid_of nFp lF)
  refine ⟨F, rfl, ⟨_, SqT.of lF⟩, ?_⟩
  refine for_it (walk_tup (xs := [.ref a7, .ref rb, .ref rc, .ref rg])) (fun _ σ H' => ∃ o o' o'', σ = [some (.ref p), o1, some (.int n), o3, some (.ref a4), some (.int (i4 : Nat)), some (.int (j4 : Nat)), some (.ref a7), o, o', o'', o11, o12, o13, o14] ∧ Nt p HF H' ∧ Tabs T H' ∧ Dc p m H')
    ⟨o8, o9, o10, rfl, Nt.refl, tF, dcF⟩ (fun _ _ H' _ ⟨_, _, _, _, nt, _, _⟩ => hide_sub.sqT (sqT_keep nt.keep hFF)) ?_ ?_
  · rintro i x σ Ha Hb hi ⟨o, o', o'', rfl, nta, ta, dca⟩ ⟨rfl, hx⟩
    obtain ⟨a, ds, rfl, fds, hds⟩ : ∃ (a : Addr) (ds : List PyData), x = .ref a ∧ Few 1 ds ∧ TupF K p Hb a ds := by
      have := List.mem_of_getElem? hx
      simp only [List.mem_cons, List.not_mem_nil, or_false] at this
      rcases this with rfl | rfl | rfl | rfl
      · exact ⟨_, _, rfl, f7, h7F.nt nta⟩
      · exact ⟨_, _, rfl, fB, hB.nt nta⟩
      · exact ⟨_, _, rfl, fC, hC.nt nta⟩
      · exact ⟨_, _, rfl, fD, hD.nt nta⟩
    obtain ⟨xs, hx1, hx2, hx3⟩ := hds.get
    have hk8 := fun d hd => okB_sm (k := 1) (by decide) d (fds.ok d hd)
    refine ⟨n, a, xs, ds, rfl, hx1, hx3, by have := fds.few; omega, fun d hd => (hk8 d hd).2.1, fun d hd => (hk8 d hd).1, fun hg Hc sc => ?_, fun hg v Hc sc hv => ?_⟩
    · have hdc := hds.nt (Nt.same sc)
      refine ⟨tabs_same ta sc, fun Hd eN td => ?_⟩
      obtain ⟨ys, hy1, hy2, hy3⟩ := (hdc.nt (Nt.ext eN)).get
      have dcd := Nt.dc (dca.same sc) eN
      refine ⟨.int n, a, .int n, ys, ds, rfl, ⟨.int n, rfl⟩, by simp [PyData.depth], hy1, hy3, fds.few, mkQ_good fds h2 h30 dcd td (fun z => absurd (z.symm.trans hg) (by decide)) (fun _ b He se te nb le => ?_)⟩
      refine ⟨.ref b, .list [.str "net"], rfl, .inl ⟨net_shw.nd, net_dq le⟩, net_shw.sb, net_shw.dp, net_shw.sz, ?_⟩
      refine ⟨rfl, ?_⟩
      refine ite2 (fun _ => ?_) (fun z => absurd (by decide) z)
      refine ⟨by simp, fun b2 Hf sf nf lf => ?_⟩
      refine ⟨.ref b2, .list [.str "net"], rfl, .inl ⟨net_shw.nd, net_dq lf⟩, net_shw.sb, net_shw.dp, net_shw.sz, ?_⟩
      refine ite2 (fun z => absurd z (by simp)) (fun _ => ?_)
      exact ⟨_, _, _, rfl, nta.trans ((Nt.same sc).trans ((Nt.ext eN).trans (Nt.same (se.trans sf)))), tabs_same te sf, (dcd.same se).same sf⟩
    · have hg2 := hg
      simp only [Bool.and_eq_true] at hg2
      obtain ⟨md, pl⟩ := make_md (k := 1) (by decide) (by omega) h30 hg2.1 fds.ok fds.few
      have sh := ret_shw md (by decide) (by decide) (by decide) pl
      have hvn := plain_hide (dca.same sc) _ _ pl hv
      have hdc := hds.nt (Nt.same sc)
      obtain ⟨va, rfl⟩ : ∃ a, v = .ref a := by
        have h : Dq K Hc v (.tuple [.int n, .tuple ((ds.map putD).mergeSort (PySem.W.dataLe false id))]) := hv
        cases h with
        | tup _ _ => exact ⟨_, rfl⟩
      obtain ⟨D, hD⟩ : ∃ D, makeD n ds = D := ⟨_, rfl⟩
      rw [hD] at sh hvn
      refine ⟨tabs_same ta sc, fun Hd eN td => ?_⟩
      obtain ⟨ys, hy1, hy2, hy3⟩ := (hdc.nt (Nt.ext eN)).get
      have dcd := Nt.dc (dca.same sc) eN
      refine ⟨.int n, a, .int n, ys, ds, rfl, ⟨.int n, rfl⟩, by simp [PyData.depth], hy1, hy3, fds.few, mkQ_good fds h2 h30 dcd td (fun _ r b He se te nb le hr => ?_) (fun z => absurd (z.symm.trans hg) (by decide))⟩
      refine ⟨.ref b, .list [.str "returned", D], rfl, .inl ⟨sh.nd, ret_dq le (hD ▸ hr)⟩, sh.sb, sh.dp, sh.sz, ?_⟩
      refine ⟨rfl, ?_⟩
      refine ite2 (fun z => absurd z (by simp)) (fun _ => ?_)
      refine ⟨by simp, fun b2 Hf sf nf lf => ?_⟩
      have ntf : Nt p Hc Hf := (Nt.ext eN).trans (Nt.same (se.trans sf))
      have hvf : Dq K Hf (.ref va) (D) := Dq.same hide_sub _ _ (Dn.dq _ _ (Dn.keep ntf.keep _ _ hvn))
      refine ⟨.ref b2, .list [.str "returned", D], rfl, .inl ⟨sh.nd, ret_dq lf hvf⟩, sh.sb, sh.dp, sh.sz, ?_⟩
      refine ite2 (fun z => absurd z (by simp)) (fun _ => ?_)
      exact ⟨_, _, _, rfl, nta.trans ((Nt.same sc).trans ((Nt.ext eN).trans (Nt.same (se.trans sf)))), tabs_same te sf, (dcd.same se).same sf⟩
  · rintro σ Ha ⟨o, o', o'', rfl, nta, ta, dca⟩
    exact mr_odd TA TX M LK hr O_one O_made dca hm ta (TupF.nt (ntF.trans nta) ⟨xs4, hq4, hx4⟩) (h7F.nt nta) (fl.up (by decide)) f7 fun H' a b c => q H' (ntF.trans (nta.trans a)) b c
end
end K01

set_option Elab.async false
set_option linter.all false
set_option maxRecDepth 100000
set_option maxHeartbeats 4000000
namespace K01
open PySem L2 PySem.KX StX LamX PyProof.Rows
def spMakes (K : PySem.W.Frag) (T : List (Addr × Str)) : Sp := fun vs H Q _ => ∃ (p : Addr) (v : V) (m n : Int) (rows : List RowN), vs = [.ref p, v] ∧ Dc p m H ∧ m + 20000 < 2 ^ 30 ∧ Tabs T H ∧ GoodN n rows ∧ rows.length ≤ 5 ∧ Dn K (hide [p] H) v (netOf n rows) ∧
  ∀ H', Nt p H H' → Tabs T H' → Dc p (m + 500) H' → Q (.bl true) H'
theorem dn_ints {K : PySem.W.Frag} {H : Hp} : ∀ {l : List Int} {vs : List V}, DnAll K H vs (l.map PyData.int) → vs = l.map V.int
  | [], _, .nil => rfl
  | k :: r, _, .cons h t => by
    cases h
    rw [dn_ints t]
    rfl
/-- the row as tuples of the heap -/
theorem row_vs {K : PySem.W.Frag} {H : Hp} {x : V} {r : RowN} (h : Dn K H x (rowD r)) : ∃ t a b, x = .ref t ∧ SqT K H t [.str r.1, .ref a, .ref b] ∧ SqT K H a (r.2.1.map V.int) ∧ SqT K H b (r.2.2.map V.int) := by
  have h' : Dn K H x (.tuple [.str r.1, tupI r.2.1, tupI r.2.2]) := h
  cases h' with
  | tup h1 h2 =>
    cases h2 with
    | cons ha h2 =>
      cases h2 with
      | cons hb h2 =>
        cases h2 with
        | cons hc h2 =>
          cases h2
          cases ha
          cases hb with
          | tup b1 b2 =>
            cases hc with
            | tup c1 c2 =>
              have e1 := dn_ints b2
              have e2 := dn_ints c2
              subst e1
              subst e2
              exact ⟨_, _, _, rfl, h1, b1, c1⟩
theorem row_of {K : PySem.W.Frag} {H : Hp} {t a b : Addr} {r : RowN} (h : SqT K H t [.str r.1, .ref a, .ref b]) (ha : SqT K H a (r.2.1.map V.int)) (hb : SqT K H b (r.2.2.map V.int)) : Dn K H (.ref t) (rowD r) := by
  have e : ∀ l : List Int, DnAll K H (l.map V.int) (l.map PyData.int) := fun l => by
    induction l with
    | nil => exact .nil
    | cons k r ih => exact .cons (.int k) ih
  exact .tup h (.cons (.str _) (.cons (.tup ha (e _)) (.cons (.tup hb (e _)) .nil)))
theorem net_vs {K : PySem.W.Frag} {H : Hp} {v : V} {n : Int} {rows : List RowN} (h : Dn K H v (netOf n rows)) : ∃ a S xs, v = .ref a ∧ SqT K H a [.int n, .ref S] ∧ SqT K H S xs ∧ DnAll K H xs (rows.map rowD) := by
  have h' : Dn K H v (.tuple [.int n, .tuple (rows.map rowD)]) := h
  cases h' with
  | tup h1 h2 =>
    cases h2 with
    | cons ha h2 =>
      cases h2 with
      | cons hb h2 =>
        cases h2
        cases ha
        cases hb with
        | tup b1 b2 => exact ⟨_, _, _, rfl, h1, b1, b2⟩
section
variable {P : Program} {w : World} {K : PySem.W.Frag} {mg : Str → Option Value} {base : Heap} {f : Addr} {cdv : Value} {A : Around} {outer : List Env} {s : Shared} {H0 : Hp} {E0' : XK} {c : MetC} {T : List (Addr × Str)}
theorem mr_mid (TA : TxtA mg) (TX : TxtX mg) (M : MetK K mg c) (LK : LamK base mg cdv T qMr) (hr : RoomG 17 (A.deeper (envOfC "_law_makes_right" (defScope s_law_makes_right) s.heap.objs.size f cdv)))
    (O_roll : Own P w K mg base CX0 "_law_roll" 1 ["dice", "total"] spRollD) (O_one : Own P w K mg base CX0 "_law_one_of" 2 ["dice", "items"] spOneD) (O_bent : Own P w K mg base CX0 "_law_bent" 5 ["dice", "thing", "deep"] (spBent K 2)) (O_made : Own P w K mg base (L2.CX P w) "_law_made" 15 ["places", "given"] (spMade K c.cN c.cI)) (O_tidied : Own P w K mg base CX0 "_law_tidied" 4 ["places", "given"] (spTidied K))
    {p : Addr} {m : Int} {H : Hp} {Q : VK} {a4 : Addr} {v : V} {n : Int} {rows lr : List RowN} {o3 o5 o6 o7 o8 o9 o10 o11 o12 o13 o14 : Option V} (dc : Dc p m H) (hm : m + 3000 < 2 ^ 30) (tb : Tabs T H) (hg : GoodN n rows) (hv : Dn K (hide [p] H) v (netOf n rows)) (h4 : TupF K p H a4 (lr.map rowD)) (hl : ∀ l ∈ lr, RowL n l) (hpm : (lr.map tidyR).Perm rows) (h5 : rows.length ≤ 5)
    (q : ∀ H', Nt p H H' → Tabs T H' → Dc p (m + 20) H' → Q (.bl true) H') :
    ∃ t, PSs (X_mr P w K mg base f cdv A outer s H0 E0') ((defBody s_law_makes_right).drop 3) t ∧ t { nx := fun _ H' => Q .non H', rt := Q } [some (.ref p), some v, some (.int n), o3, some (.ref a4), o5, o6, o7, o8, o9, o10, o11, o12, o13, o14] H := by
  have nd := sc_law_makes_right.nd
  have hrg : (A.deeper (envOfC "_law_makes_right" (defScope s_law_makes_right) s.heap.objs.size f cdv)).guards = some [] := hr.g
  have hrep : mg "repr" = none := M.txt.repr
  have hL : ∀ sc, lamSB (defScope s_law_makes_right) sc = true → LamS (X_mr P w K mg base f cdv A outer s H0 E0').env.scope sc := fun _ h => lamS_by h
  refine ⟨_, (pss_cons (ps_if (pt_cmpA (op_neA hr.units64) (pe_callB (call_reprW hr.units64 hrg) (by rfl) hrep (by decide +kernel) (pa_cons (pe_met M LK hr (hL _ (by decide +kernel)) rfl (fun _ _ _ _ _ => rfl) (fun A outer s H E f c' hr2 => pe_lamX O_made hr2 (pa_cons (av 2) (pa_cons (av 4) pa_nil)) (by decide))) pa_nil)) (pe_callB (call_reprW hr.units64 hrg) (by rfl) hrep (by decide +kernel) (pa_cons (pe_lstS (pa_cons pe_str (pa_cons (av 1) pa_nil))) pa_nil))) (pss_one (ps_ret pe_bl)) pss_nil)
      (pss_cons (ps_par (i := 5) (j := 6) (by rfl) nd rfl rfl (by decide) rfl rfl (pa_cons (pe_own O_roll hr (pa_cons (av 0) (pa_cons (pe_callB call_lenA (by rfl) TA.len PySem.boot_len (pa_cons (av 4) pa_nil)) pa_nil)) (by decide)) (pa_cons (pe_own O_roll hr (pa_cons (av 0) (pa_cons (pe_callB call_lenA (by rfl) TA.len PySem.boot_len (pa_cons (av 4) pa_nil)) pa_nil)) (by decide)) pa_nil)) (by rfl))
      (pss_cons (ps_set (i := 7) nd rfl (Or.inl rfl) (pe_op op_addS (pe_op op_addS (pe_slice sl_tupS (av 4) po_none (po_some (av 5))) (pe_tupS (pa_cons (pe_own O_bent hr (pa_cons (av 0) (pa_cons (pe_ixA (av 4) (av 5)) (pa_cons pe_int pa_nil))) (by decide)) pa_nil))) (pe_slice sl_tupS (av 4) (po_some (pe_op op_addA (av 5) pe_int)) po_none)))
      pss_any))), ?_⟩
  have hlen5 : lr.length ≤ 5 := by
    have := hpm.length_eq
    rw [List.length_map] at this
    omega
  have hlen1 : 1 ≤ lr.length := by
    have := hpm.length_eq
    have := hg.one
    rw [List.length_map] at *
    omega
  have fl := rows_few hl hg.hi hlen5
  have ok := make_given hg hpm
  have good : goodB n (lr.map rowD) = true := by
    unfold goodB
    rw [ok, net_good hg, Bool.and_true]
    refine List.all_eq_true.mpr fun d hd => ?_
    obtain ⟨l, hl', rfl⟩ := List.mem_map.mp hd
    have L := hl l hl'
    show (isNameD (.str l.1) && (allIn n (tupI l.2.1) && allIn n (tupI l.2.2))) = true
    rw [L.w.name, allIn_of L.i, allIn_of L.o]
    rfl
  have sh : Shw (.list [.str "returned", netOf n rows]) := by
    have := make_md (k := 0) (by decide) (by have := hg.lo; omega) hg.hi (by
      have := good
      unfold goodB at this
      simp only [Bool.and_eq_true] at this
      exact this.1) fl.ok fl.few
    rw [ok] at this
    exact ret_shw this.1 (by decide) (by decide) (by decide) this.2
  obtain ⟨D, hD⟩ : ∃ D, netOf n rows = D := ⟨_, rfl⟩
  have pl : plainD D = true := by rw [← hD]; exact plain_net n rows
  rw [hD] at sh ok hv
  -- the first question
  refine ⟨tb, fun H1 eN t1 => ?_⟩
  obtain ⟨ys, hy1, hy2, hy3⟩ := (h4.nt (Nt.ext eN)).get
  have dc1 := Nt.dc dc eN
  refine ⟨.int n, a4, .int n, ys, lr.map rowD, rfl, ⟨.int n, rfl⟩, by simp [PyData.depth], hy1, hy3, fl.few, mkQ_good fl hg.lo hg.hi dc1 t1 (fun _ r b H2 s2 t2 nb l2 hr2 => ?_) (fun z => absurd (z.symm.trans good) (by decide))⟩
  refine ⟨.ref b, .list [.str "returned", D], rfl, .inl ⟨sh.nd, ret_dq l2 (ok ▸ hr2)⟩, sh.sb, sh.dp, sh.sz, ?_⟩
  refine ⟨by simp, fun b3 H3 s3 n3 l3 => ?_⟩
  have nt3 : Nt p H H3 := (Nt.ext eN).trans (Nt.same (s2.trans s3))
  have hv3 : Dq K H3 v D := Dq.same hide_sub _ _ (Dn.dq _ _ (Dn.keep nt3.keep _ _ hv))
  refine ⟨.ref b3, .list [.str "returned", D], rfl, .inl ⟨sh.nd, ret_dq l3 hv3⟩, sh.sb, sh.dp, sh.sz, ?_⟩
  refine ite2 (fun z => absurd z (by simp)) (fun _ => ?_)
  have dc3 := (dc1.same s2).same s3
  have t3 := tabs_same t2 s3
  -- two places
  obtain ⟨xs, hq, hx⟩ := h4.nt nt3
  have hxl := hx.length
  rw [List.length_map] at hxl
  refine .inr ⟨xs, hide_sub.sqT hq, p, _, _, rfl, dc3, by omega, by omega, by omega, fun r1 H4 r10 r11 dc4 e4 => ?_⟩
  have nt4 : Nt p H3 H4 := Nt.of (Nxt.of_eq e4)
  have hq4 := sqT_keep nt4.keep hq
  refine .inr ⟨xs, hide_sub.sqT hq4, p, _, _, rfl, dc4, by omega, by omega, by omega, fun r2 H5 r20 r21 dc5 e5 => ?_⟩
  have nt5 : Nt p H3 H5 := nt4.trans (Nt.of (Nxt.of_eq e5))
  have t5 : Tabs T H5 := Tabs.nxt (Tabs.nxt t3 dc3 (Nxt.of_eq e4)) dc4 (Nxt.of_eq e5)
  refine ⟨_, _, rfl, ?_⟩
  obtain ⟨i, rfl⟩ : ∃ i : Nat, r1 = (i : Int) := ⟨r1.toNat, by omega⟩
  obtain ⟨j, rfl⟩ : ∃ j : Nat, r2 = (j : Int) := ⟨r2.toNat, by omega⟩
  have hi : i < lr.length := by omega
  have hj : j < lr.length := by omega
  have hq5 := sqT_keep nt5.keep hq
  have hx5 := DnAll.keep nt5.keep _ _ hx
  obtain ⟨x, hxi⟩ : ∃ x, xs[i]? = some x := ⟨_, List.getElem?_eq_getElem (by omega)⟩
  -- changed
  refine ⟨(i : Int), rfl, a4, xs, rfl, hide_sub.sqT hq5, fun ra H6 s6 hra => ?_⟩
  rw [cutV_to] at hra
  have hq6 := sqT_keep (Nt.same s6 : Nt p H5 H6).keep hq5
  have hx6 := DnAll.keep (Nt.same s6 : Nt p H5 H6).keep _ _ hx5
  obtain ⟨d, hdi, hdn⟩ := hx6.get hxi
  obtain ⟨l, hli, rfl⟩ : ∃ l, lr[i]? = some l ∧ rowD l = d := by
    rw [List.getElem?_map] at hdi
    cases e : lr[i]? with
    | none => rw [e] at hdi; cases hdi
    | some l => rw [e] at hdi; exact ⟨l, rfl, Option.some.inj hdi⟩
  refine .inr ⟨xs, x, hide_sub.sqT hq6, atI_nat hxi, ?_⟩
  have dc6 := dc5.same s6
  refine ⟨p, x, rowD l, m + 1 + 1, 0, 22000, 2, rfl, dc6, by omega, hdn, (hl l (List.mem_of_getElem? hli)).md hg.hi, by decide, by decide, fun v' d' H7 nx7 dc7 hd7 md7 => ?_⟩
  refine ⟨by simp, fun q8 H8 s8 n8 l8 => ?_⟩
  have dc8 := dc7.same s8
  have hra8 : SqT K H8 ra (xs.take i) := hide_sub.sqT (sqT_keep ((Nt.of nx7).trans (Nt.same s8) : Nt p H6 H8).keep (dc_sqT dc6 hra))
  refine .inr ⟨_, _, hra8, SqT.of l8, by simp; omega, fun rb H9 s9 hrb => ?_⟩
  have nt69 : Nt p H6 H9 := (Nt.of nx7).trans ((Nt.same s8).trans (Nt.same s9))
  have hq9 := sqT_keep nt69.keep hq6
  refine ⟨(i : Int) + 1, rfl, a4, xs, rfl, hide_sub.sqT hq9, fun rc Ha sa hrc => ?_⟩
  rw [show (i : Int) + 1 = ((i + 1 : Nat) : Int) by omega, cutV_from] at hrc
  refine .inr ⟨_, _, sa.sqT hrb, hrc, by simp; omega, fun rd Hb sb hrd => ?_⟩
  have nt7b : Nt p H7 Hb := (Nt.same s8).trans ((Nt.same s9).trans ((Nt.same sa).trans (Nt.same sb)))
  have nt6b : Nt p H6 Hb := (Nt.of nx7).trans nt7b
  have dcb := (((dc7.same s8).same s9).same sa).same sb
  have tb2 : Tabs T Hb := tabs_same (tabs_same (tabs_same (tabs_same (Tabs.nxt (tabs_same t5 s6) dc6 nx7) s8) s9) sa) sb
  have hxb := DnAll.keep nt6b.keep _ _ hx6
  have h7 : TupF K p Hb rd ((lr.map rowD).take i ++ [d'] ++ (lr.map rowD).drop (i + 1)) := ⟨_, dc_sqT dcb hrd, ((hxb.take i).append (.cons (Dn.keep nt7b.keep _ _ hd7) .nil)).append (hxb.drop (i + 1))⟩
  have f7 : Few 1 ((lr.map rowD).take i ++ [d'] ++ (lr.map rowD).drop (i + 1)) := by
    refine ⟨by decide, by simp; omega, fun d hd => ?_⟩
    rcases List.mem_append.mp hd with z | z
    · rcases List.mem_append.mp z with z | z
      · exact okB_up _ (fl.ok d (List.mem_of_mem_take z))
      · rw [List.mem_singleton.mp z]
        exact md7.ok
    · exact okB_up _ (fl.ok d (List.mem_of_mem_drop z))
  have nt3b : Nt p H3 Hb := nt5.trans ((Nt.same s6).trans nt6b)
  exact mr_loop (i4 := i) (j4 := j) TA TX M LK hr O_one O_made O_tidied dcb (by omega) tb2 hg.lo hg.hi (TupF.nt nt3b ⟨xs, hq, hx⟩) hl hlen5 hi hj h7 f7 fun H' a b c => q H' (nt3.trans (nt3b.trans a)) b (c.mono (by omega))
end
end K01

set_option Elab.async false
set_option linter.all false
set_option maxRecDepth 100000
set_option maxHeartbeats 4000000
namespace K01
open PySem L2 PySem.KX StX LamX PyProof.Rows
theorem hide2 {D p : Addr} {H H' : Hp} (h : ∀ b o, b ≠ p → b ≠ D → H b = some o → H' b = some o) : Same (hide [D, p] H) (hide [D, p] H') := fun b o e => by
  obtain ⟨e1, e2⟩ := hide_of e
  rw [hide_in e2]
  exact h b o (fun z => e2 (by rw [z]; simp)) (fun z => e2 (by rw [z]; simp)) e1
theorem hid2 {D p b : Addr} {H : Hp} {o : HO} (h1 : b ≠ p) (h2 : b ≠ D) (e : H b = some o) : hide [D, p] H b = some o := by
  rw [hide_in (fun z => by
    simp only [List.mem_cons, List.not_mem_nil, or_false] at z
    exact z.elim h2 h1)]
  exact e
section
variable {P : Program} {w : World} {K : PySem.W.Frag} {mg : Str → Option Value} {base : Heap} {c : MetC} {T : List (Addr × Str)}
theorem ok_makes_right {f : Addr} {fd : FuncData} {cv : Value} (TA : TxtA mg) (TX : TxtX mg) (M : MetK K mg c) (LK : LamK base mg cv T qMr)
    (F : ∃ (oc : Value) (od : Option Addr) (kV doc pm : Value) (an : Option Addr) (ct : Value) (osl : Array (Option Value)), fd = PySem.W.fnOf "_law_makes_right" "_law_makes_right" (defArgs s_law_makes_right) (defBody s_law_makes_right) (defScope s_law_makes_right) .none kV doc pm an cv ct ∧ K.lookup f = some ⟨oc, od, .func fd, osl⟩ ∧ PySem.W.codeIn K cv "_law_makes_right" = true)
    (O_roll : Own P w K mg base CX0 "_law_roll" 1 ["dice", "total"] spRollD) (O_one : Own P w K mg base CX0 "_law_one_of" 2 ["dice", "items"] spOneD) (O_mixed : Own P w K mg base CX0 "_law_mixed" 2 ["dice", "items"] (spMixD K)) (O_bent : Own P w K mg base CX0 "_law_bent" 5 ["dice", "thing", "deep"] (spBent K 2)) (O_loose : Own P w K mg base CX0 "_law_loose" 3 ["dice", "part"] (spLoose K)) (O_made : Own P w K mg base (L2.CX P w) "_law_made" 15 ["places", "given"] (spMade K c.cN c.cI)) (O_tidied : Own P w K mg base CX0 "_law_tidied" 4 ["places", "given"] (spTidied K)) :
    FnG P w K mg base CX0 18 f fd ["dice", "net"] (spMakes K T) := by
  have nd := sc_law_makes_right.nd
  refine okGL F sc_law_makes_right (fun vs H Q E h => ?_) (fun A outer s H vs Q E hr h => ?_)
  · obtain ⟨_, _, _, _, _, rfl, _⟩ := h
    rfl
  · obtain ⟨p, v, m, n, rows, rfl, dc, hm, tb, hg, h5, hv, k⟩ := h
    refine ⟨_, (pss_cons (ps_asg (av 1) (pg_tup rfl (pgs_cons (pg_name (i := 2) nd rfl (Or.inr rfl)) (pgs_cons (pg_name (i := 3) nd rfl (Or.inl rfl)) pgs_nil))))
      (pss_cons (ps_set (i := 4) nd rfl (Or.inr rfl) (pe_lc (own := [("name", 12), ("inputs", 13), ("outputs", 14)]) (by rfl) nd (pi_tup (av 3)) (blkOk_by (N := N_mr) (sc := defScope s_law_makes_right) (by decide +kernel)) (fun _ _ _ _ _ => (show PG _ _ (gTup K 3 (gCons (gName 12) (gCons (gName 13) (gCons (gName 14) gNil)))) from pg_tup rfl (pgs_cons (pg_name (i := 12) nd rfl (Or.inl rfl)) (pgs_cons (pg_name (i := 13) nd rfl (Or.inl rfl)) (pgs_cons (pg_name (i := 14) nd rfl (Or.inl rfl)) pgs_nil))))) (fun _ _ _ _ _ => pts_nil) (fun _ _ _ _ _ => (show PE _ _ (tTupS (tCons (aVar 12) (tCons (tCall (spLoose K) [] E0 (tCons (aVar 0) (tCons (aVar 13) tNil))) (tCons (tCall (spLoose K) [] E0 (tCons (aVar 0) (tCons (aVar 14) tNil))) tNil)))) from pe_tupS (pa_cons (av 12) (pa_cons (pe_own O_loose hr (pa_cons (av 0) (pa_cons (av 13) pa_nil)) (by decide)) (pa_cons (pe_own O_loose hr (pa_cons (av 0) (pa_cons (av 14) pa_nil)) (by decide)) pa_nil)))))))
      (pss_cons (ps_set (i := 4) nd rfl (Or.inr rfl) (pe_callTy call_tupLS (by rfl) TA.tuple (by decide +kernel) (pa_cons (pe_own O_mixed hr (pa_cons (av 0) (pa_cons (av 4) pa_nil)) (by decide)) pa_nil)))
      pss_any))), ?_⟩
    obtain ⟨a, S, xs, rfl, ha, hS, hx⟩ := net_vs hv
    have hxl := hx.length
    rw [List.length_map] at hxl
    refine ⟨a, _, rfl, hide_sub.sqT ha, rfl, _, _, rfl, _, _, rfl, rfl, ?_⟩
    refine ⟨S, rfl, ⟨_, hide_sub.sqT hS⟩, fun D hD => ?_⟩
    have hDp : D ≠ p := dc.ne hD
    refine lc_it (walk_tup (xs := xs)) (fun t H' => ∃ (ac : List V) (lr : List RowN), H' D = some (.lst ac) ∧ lr.length = t ∧ DnAll K (hide [D, p] H') ac (lr.map rowD) ∧ lr.map tidyR = rows.take t ∧ (∀ l ∈ lr, RowL n l) ∧ Nxt p H H' ∧ Dc p (m + 40 * t) H')
      ⟨[], [], upd_same, rfl, .nil, rfl, (fun k hk => absurd hk List.not_mem_nil), (Nxt.refl).put hD, (dc.upd hDp).mono (by omega)⟩ (fun t H' _ ⟨_, _, _, _, _, _, _, nx, _⟩ => hide_sub.sqT (sqT_keep (Nt.of nx).keep hS)) ?_ ?_
    · rintro t x H2 H3 ht ⟨ac, lr, hD2, hlr, hac, hti, hrl, nx2, dc2⟩ ⟨rfl, hx2⟩
      have hx2' := DnAll.keep (Nt.of nx2).keep _ _ hx
      obtain ⟨d, hd, hdn⟩ := hx2'.get hx2
      obtain ⟨r, hr1, rfl⟩ : ∃ r, rows[t]? = some r ∧ rowD r = d := by
        rw [List.getElem?_map] at hd
        cases e : rows[t]? with
        | none => rw [e] at hd; cases hd
        | some r => rw [e] at hd; exact ⟨r, rfl, Option.some.inj hd⟩
      have G := hg.row r (List.mem_of_getElem? hr1)
      obtain ⟨ta, ra, rb, rfl, h3, hra, hrb⟩ := row_vs hdn
      have ht5 : t < 5 := by omega
      refine ⟨ta, _, rfl, hide_sub.sqT h3, rfl, _, _, rfl, _, _, rfl, _, _, rfl, rfl, ?_⟩
      refine ⟨rfl, p, ra, _, r.2.1, rfl, dc2, hra, G.i.few, by omega, fun ms q4 H4 hms hml nx4 dc4 hq4 l4 => ?_⟩
      refine ⟨p, rb, _, r.2.2, rfl, dc4, sqT_keep (Nt.of nx4).keep hrb, G.o.few, by omega, fun ns q5 H5 hns hnl nx5 dc5 hq5 l5 => ?_⟩
      refine ⟨by simp, fun q6 H6 s6 n6 l6 => ?_⟩
      have nx26 := (nx4.trans nx5).trans (Nxt.of s6)
      have hD6 := nx26.get hDp hD2
      have hL : Loose r (r.1, ms, ns) := ⟨rfl, hms, hns, hml, hnl⟩
      have hal := hac.length
      rw [List.length_map] at hal
      have hq6 : q6 ≠ p := dc5.ne n6
      have neD : ∀ {b : Addr} {H' : Hp}, H' b = none → H' D ≠ none → b ≠ D := fun e1 e2 z => e2 (z ▸ e1)
      have hD4 := nx4.get hDp hD2
      have hD5 := nx5.get hDp hD4
      have hq6D : q6 ≠ D := fun z => by rw [z, hD5] at n6; cases n6
      have hq4D : q4 ≠ D := fun z => by rw [z, hD4] at l4; cases l4
      have hq5D : q5 ≠ D := fun z => by rw [z, hD5] at l5; cases l5
      refine ⟨ac, hD6, by rw [sizeLine_eq]; omega, ac ++ [.ref q6], lr ++ [(r.1, ms, ns)], upd_same, by simp [hlr], ?_, ?_, ?_, ?_, ?_⟩
      · rw [List.map_append]
        refine (DnAll.same (hide2 fun b o h1 h2 e => ?_) _ _ hac).append (.cons (row_of (SqT.of (hid2 hq6 hq6D ?_)) (SqT.of (hid2 hq4 hq4D ?_)) (SqT.of (hid2 hq5 hq5D ?_))) .nil)
        · rw [upd_ne h2]
          exact nx26.get h1 e
        · rw [upd_ne hq6D]
          exact l6
        · rw [upd_ne hq4D]
          exact s6 _ _ (nx5.get hq4 l4)
        · rw [upd_ne hq5D]
          exact s6 _ _ l5
      · rw [List.map_append, hti, List.map_cons, List.map_nil, hL.tidy G, List.take_add_one, hr1]
        rfl
      · intro l hl
        rcases List.mem_append.mp hl with z | z
        · exact hrl l z
        · rw [List.mem_singleton.mp z]
          exact ⟨G.w, fun k hk => G.i.inn k ((hms k).mp hk), fun k hk => G.o.inn k ((hns k).mp hk), hml, hnl⟩
      · exact nxt_of fun b o hb e => by
          rw [upd_ne (ne_of_none e hD)]
          exact nx26.get hb (nx2.get hb e)
      · refine Dc.upd ((dc5.same s6).mono (by omega)) hDp
    · rintro H2 ⟨ac, lr, hD2, hlr, hac, hti, hrl, nx2, dc2⟩
      have hal := hac.length
      rw [List.length_map] at hal
      refine ⟨p, D, _, ac, rfl, dc2, by omega, .inl (SqL.of hD2), by omega, fun ys q4 H4 pm nx4 dc4 n4 l4 => ?_⟩
      refine ⟨q4, _, rfl, SqL.of l4, fun q5 H5 s5 n5 l5 => ?_⟩
      have e2 : Same (hide [D, p] H2) (hide [p] H5) := fun b o e => by
        obtain ⟨e1, e2⟩ := hide_of e
        exact hid_of (fun z => e2 (by rw [z]; simp)) (s5 _ _ (nx4.get (fun z => e2 (by rw [z]; simp)) e1))
      obtain ⟨lr', pl, hac'⟩ := dnAll_perm pm (DnAll.same e2 _ _ hac)
      have hq5p : q5 ≠ p := dc4.ne n5
      have h4 : TupF K p H5 q5 (lr'.map rowD) := ⟨ys, SqT.of (hid_of hq5p l5), hac'⟩
      have nt : Nt p H H5 := (Nt.of (nx2.trans nx4)).trans (Nt.same s5)
      have t5 : Tabs T H5 := tabs_same (Tabs.nxt tb dc (nx2.trans nx4)) s5
      have hv5 := Dn.keep nt.keep _ _ hv
      have hrows : lr.map tidyR = rows := by rw [hti, List.take_of_length_le (by omega)]
      have hlen := pm.length_eq
      exact mr_mid TA TX M LK hr O_roll O_one O_bent O_made O_tidied (dc4.same s5) (by omega) t5 hg hv5 h4 (fun l hl => hrl l (pl.mem_iff.mp hl)) (by rw [← hrows]; exact pl.map _) h5 fun H' a b c => k H' (nt.trans a) b (c.mono (by omega))
end
end K01

set_option Elab.async false
set_option linter.all false
set_option maxRecDepth 100000
set_option maxHeartbeats 4000000
/-! the signs of a repr. -/
namespace K01
open PySem L2 PySem.KX StX LamX PyProof.Rows
def OkT (x : Str) : Prop := ∀ c ∈ x.cps.toList, c < 1114112
theorem OkT.ok {x : Str} (h : OkT x) : PyData.strOk x = true := by
  unfold PyData.strOk
  rw [← Array.all_toList]
  exact List.all_eq_true.mpr fun c hc => decide_eq_true (h c hc)
theorem okT_app {a b : Str} (ha : OkT a) (hb : OkT b) : OkT (a ++ b) := fun c hc => by
  have e : (a ++ b).cps.toList = a.cps.toList ++ b.cps.toList := by
    show (a.cps ++ b.cps).toList = _
    simp
  rw [e] at hc
  rcases List.mem_append.mp hc with z | z
  · exact ha c z
  · exact hb c z
theorem okT_lit {x : Str} (h : x.cps.toList.all (fun c => decide (c < 1114112)) = true) : OkT x := fun c hc => of_decide_eq_true (List.all_eq_true.mp h c hc)
theorem okT_str (s : String) : OkT (Str.ofString s) := fun c hc => by
  rw [Str.ofString_eq_toList] at hc
  have hc' : c ∈ s.toList.map Char.toNat := by simpa using hc
  obtain ⟨ch, _, rfl⟩ := List.mem_map.mp hc'
  have := ch.valid
  show ch.val.toNat < _
  rcases this with z | z
  · have : ch.val.toNat < 0xd800 := z
    omega
  · have : ch.val.toNat < 0x110000 := z.2
    omega
theorem reprChar_ok : ∀ c : Fin 128, ((Builtin.Str.reprChar 34 c.val).all (fun x => decide (x < 1114112)) && (Builtin.Str.reprChar 39 c.val).all (fun x => decide (x < 1114112))) = true := by decide +kernel
theorem okT_repr {x : Str} (h : ∀ c ∈ x.cps.toList, c < 128) : OkT (PySem.reprText x) := by
  have hq : PySem.reprQuote x = 34 ∨ PySem.reprQuote x = 39 := by
    unfold PySem.reprQuote
    split
    · exact .inl rfl
    · exact .inr rfl
  have key : ∀ (q : Nat), (q = 34 ∨ q = 39) → ∀ (l : List Nat) (acc : Array Nat), (∀ c ∈ l, c < 128) → (∀ c ∈ acc.toList, c < 1114112) → ∀ c ∈ (l.foldl (fun out c => out ++ (Builtin.Str.reprChar q c).toArray) acc).toList, c < 1114112 := fun q hq l => by
    induction l with
    | nil => intro acc _ ha; exact ha
    | cons c r ih =>
      intro acc hl ha
      refine ih _ (fun c hc => hl c (List.mem_cons_of_mem _ hc)) fun d hd => ?_
      have e : (acc ++ (Builtin.Str.reprChar q c).toArray).toList = acc.toList ++ Builtin.Str.reprChar q c := by simp
      rw [e] at hd
      rcases List.mem_append.mp hd with z | z
      · exact ha d z
      · have := reprChar_ok ⟨c, hl c List.mem_cons_self⟩
        simp only [Bool.and_eq_true] at this
        rcases hq with rfl | rfl
        · exact of_decide_eq_true (List.all_eq_true.mp this.1 d z)
        · exact of_decide_eq_true (List.all_eq_true.mp this.2 d z)
  have q1 : PySem.reprQuote x < 1114112 := by rcases hq with e | e <;> rw [e] <;> decide
  intro c hc
  unfold PySem.reprText at hc
  rw [← Array.foldl_toList] at hc
  have hc' : c ∈ (x.cps.toList.foldl (fun out c => out ++ (Builtin.Str.reprChar (PySem.reprQuote x) c).toArray) #[PySem.reprQuote x]).toList ++ [PySem.reprQuote x] := by
    rw [← Array.toList_push]
    exact hc
  rcases List.mem_append.mp hc' with z | z
  · exact key _ hq _ _ h (fun d hd => by
      have : d = PySem.reprQuote x := by simpa using hd
      rw [this]; exact q1) c z
  · rw [List.mem_singleton.mp z]
    exact q1
theorem okT_join {ts : List Str} (h : ∀ t ∈ ts, OkT t) : OkT (Str.join ", " ts) := fun c hc => by
  rcases (mem_join _ _ _).mp hc with ⟨t, ht, z⟩ | ⟨_, z⟩
  · exact h t ht c z
  · exact okT_lit (x := ", ") (by decide +kernel) c z
mutual
theorem okT_shown {k : Nat} : ∀ d : PyData, okB k d = true → OkT d.shown
  | .none, _ => by rw [PyData.shown_none]; exact okT_lit (by decide +kernel)
  | .bool b, _ => by rw [PyData.shown_bool]; cases b <;> exact okT_lit (by decide +kernel)
  | .int i, _ => by rw [PyData.shown_int]; exact okT_str _
  | .str x, h => by
    rw [PyData.shown_str]
    simp only [okB, Bool.and_eq_true, decide_eq_true_eq] at h
    exact okT_repr fun c hc => of_decide_eq_true (List.all_eq_true.mp h.2 c hc)
  | .list xs, h => by
    rw [PyData.shown_list]
    simp only [okB, Bool.and_eq_true, decide_eq_true_eq] at h
    exact okT_app (okT_app (okT_lit (by decide +kernel)) (okT_join (okT_all xs h.2))) (okT_lit (by decide +kernel))
  | .tuple xs, h => by
    rw [PyData.shown_tuple]
    simp only [okB, Bool.and_eq_true, decide_eq_true_eq] at h
    refine okT_app (okT_app (okT_lit (by decide +kernel)) (okT_join (okT_all xs h.2))) ?_
    split <;> exact okT_lit (by decide +kernel)
  | .dict [], _ => okT_lit (by decide +kernel)
  | .dict (_ :: _), h => by simp [okB] at h
theorem okT_all {k : Nat} : ∀ ds : List PyData, okBAll k ds = true → ∀ t ∈ PyData.shownAll ds, OkT t
  | [], _ => fun t ht => by rw [PyData.shownAll_nil] at ht; exact absurd ht List.not_mem_nil
  | x :: r, h => fun t ht => by
    simp only [okBAll, Bool.and_eq_true] at h
    rw [PyData.shownAll_cons] at ht
    rcases List.mem_cons.mp ht with rfl | z
    · exact okT_shown x h.1
    · exact okT_all r h.2 t z
end
end K01

set_option Elab.async false
set_option linter.all false
set_option maxRecDepth 100000
set_option maxHeartbeats 4000000
namespace K01
open PySem L2 PySem.KX StX LamX PyProof.Rows
abbrev s_law_steps_right : Stmt := top 45
abbrev N_sr : List Str := ["dice", "net", "name", "inputs", "outputs", "odd", "wrong", "call", "calls", "step"]
theorem sc_law_steps_right : FnScope N_sr ["dice", "net"] (defScope s_law_steps_right) := ⟨rfl, rfl, rfl, by decide +kernel, rfl, by decide +kernel, by decide +kernel⟩
abbrev X_sr (P : Program) (w : World) (K : PySem.W.Frag) (mg : Str → Option Value) (base : Heap) (f : Addr) (cdv : Value) (A : Around) (outer : List Env) (s : Shared) (H : Hp) (E : XK) : Cx := (cxOf CX0 P w K mg base N_sr "_law_steps_right" (defScope s_law_steps_right) f cdv A outer s H E).nox
abbrev qSr : Str := "_law_steps_right.<locals>.<lambda>"
theorem tabs_upd {T : List (Addr × Str)} {H : Hp} {R : Addr} {xs : List V} {o : HO} (t : Tabs T H) (h : H R = some (.lst xs)) : Tabs T (upd H R o) := fun q hq => by
  obtain ⟨ps, h1, h2, h3⟩ := t q hq
  have ne : q.1 ≠ R := fun z => by rw [z, h] at h1; cases h1
  refine ⟨ps, by rw [upd_ne ne]; exact h1, h2, fun pos cv hc => ?_⟩
  obtain ⟨c, e1, e2⟩ := h3 pos cv hc
  have ne2 : c ≠ R := fun z => by rw [z, h] at e2; cases e2
  exact ⟨c, e1, by rw [upd_ne ne2]; exact e2⟩
theorem met_net {K : PySem.W.Frag} {c : MetC} {T : List (Addr × Str)} {p : Addr} {m : Int} {H1 : Hp} {Q : VK} (dc : Dc p m H1) (t1 : Tabs T H1) (q : ∀ (a : Addr) (H2 : Hp), Same H1 H2 → Tabs T H2 → a ≠ p → (∀ b o, H1 b = some o → b ≠ a) → H2 a = some (.lst [.str "net"]) → Q (.ref a) H2) : ∀ H', Same H1 H' → metE K c Q (.ref c.cI) none H' := fun H' s => by
  refine .inr (.inr ⟨"net", rfl, .inl ⟨rfl, rfl⟩, fun a H2 s2 na l2 => q a H2 (s.trans s2) (tabs_same t1 (s.trans s2)) (dice_ne dc s na) (fun b o hb z => ?_) l2⟩)
  have := s b o hb
  rw [z, na] at this
  cases this
section
variable {P : Program} {w : World} {K : PySem.W.Frag} {mg : Str → Option Value} {base : Heap} {f : Addr} {cdv : Value} {A : Around} {outer : List Env} {s : Shared} {H0 : Hp} {E0' : XK} {c : MetC} {T : List (Addr × Str)}
theorem sr_wrong (TA : TxtA mg) (M : MetK K mg c) (LK : LamK base mg cdv T qSr) (hr : RoomG 17 (A.deeper (envOfC "_law_steps_right" (defScope s_law_steps_right) s.heap.objs.size f cdv)))
    (O_names : Own P w K mg base (L2.CX P w) "step_names" 7 ["net"] (spNames K c.cI)) (O_in : Own P w K mg base (L2.CX P w) "inputs_of" 15 ["net", "name"] (spPart K c.cI c.cS fun b _ => b)) (O_out : Own P w K mg base (L2.CX P w) "outputs_of" 15 ["net", "name"] (spPart K c.cI c.cS fun _ b => b))
    {p : Addr} {m : Int} {H : Hp} {Q : VK} {v v5 v6 : V} {n : Int} {rows : List RowN} {d5 d6 : PyData} {o2 o3 o4 o7 o8 o9 : Option V} (dc : Dc p m H) (tb : Tabs T H) (hg : GoodN n rows) (hv : Dn K (hide [p] H) v (netOf n rows)) (h5 : Dn K (hide [p] H) v5 d5) (s5 : smQ d5 = true) (p5 : d5.depth ≤ 10) (h6 : Dn K (hide [p] H) v6 d6) (w6 : netD d6 = false) (s6 : smQ d6 = true)
    (q : ∀ H', Nt p H H' → Tabs T H' → Dc p m H' → Q (.bl true) H') :
    ∃ t, PSs (X_sr P w K mg base f cdv A outer s H0 E0') ((defBody s_law_steps_right).drop 5) t ∧ t { nx := fun _ H' => Q .non H', rt := Q } [some (.ref p), some v, o2, o3, o4, some v5, some v6, o7, o8, o9] H := by
  have nd := sc_law_steps_right.nd
  have hL : ∀ sc, lamSB (defScope s_law_steps_right) sc = true → LamS (X_sr P w K mg base f cdv A outer s H0 E0').env.scope sc := fun _ h => lamS_by h
  refine ⟨_, (pss_cons (ps_set (i := 8) nd rfl (Or.inl rfl) (pe_lstS (pa_cons (pe_met M LK hr (hL _ (by decide +kernel)) rfl (fun _ _ _ _ _ => rfl) (fun A outer s H E f c' hr2 => pe_lamX O_names hr2 (pa_cons (av 6) pa_nil) (by decide))) pa_nil)))
      (pss_cons (ps_expr (pe_appS (av 8) (pe_met M LK hr (hL _ (by decide +kernel)) rfl (fun _ _ _ _ _ => rfl) (fun A outer s H E f c' hr2 => pe_lamX O_in hr2 (pa_cons (av 6) (pa_cons (av 5) pa_nil)) (by decide)))))
      (pss_cons (ps_expr (pe_appS (av 8) (pe_met M LK hr (hL _ (by decide +kernel)) rfl (fun _ _ _ _ _ => rfl) (fun A outer s H E f c' hr2 => show PE _ _ (tCall (spPart K c.cI c.cS fun _ b => b) [] E (tCons (aVar 6) (tCons (tOp (rIxA K) (tOp (rIxA K) (tOp (rIxA K) (aVar 1) (tC (.int 1))) (tC (.int 0))) (tC (.int 0))) tNil))) from pe_lamX O_out hr2 (pa_cons (av 6) (pa_cons (pe_ixA (pe_ixA (pe_ixA (av 1) pe_int) pe_int) pe_int) pa_nil)) (by decide)))))
      (pss_one (ps_ret (pe_cmpA (op_eqA hr.units64) (av 8) (pe_op op_repS (pe_lstS (pa_cons (pe_lstS (pa_cons pe_str pa_nil)) pa_nil)) pe_int))))))), ?_⟩
  -- the first
  refine ⟨tb, fun H1 eN t1 => ?_⟩
  have nt1 : Nt p H H1 := Nt.ext eN
  have h61 := Dn.keep nt1.keep _ _ h6
  have dc1 := Nt.dc dc eN
  refine ⟨v6, d6, rfl, ⟨Dq.same hide_sub _ _ (Dn.dq _ _ h61), s6⟩, fun z => absurd (z.symm.trans w6) (by decide), fun _ => met_net dc1 t1 fun a1 H2 s2 t2 e2 na2 l2 => ?_⟩
  refine ⟨by simp, fun R H3 s3 n3 l3 => ?_⟩
  have s13 := s2.trans s3
  have dc3 := dc1.same s13
  have hRp : R ≠ p := (dc1.same s2).ne n3
  have t3 := tabs_same t2 s3
  -- the second
  refine ⟨R, [.ref a1], rfl, l3, ?_⟩
  refine ⟨t3, fun H4 eN4 t4 => ?_⟩
  have nt14 : Nt p H1 H4 := (Nt.same s13).trans (Nt.ext eN4)
  have h64 := Dn.keep nt14.keep _ _ h61
  have h54 := Dn.keep (nt1.trans nt14).keep _ _ h5
  have dc4 := Nt.dc dc3 eN4
  have l4 : H4 R = some (.lst [.ref a1]) := eN4 _ _ l3 fun ps z => nomatch z
  have la4 : H4 a1 = some (.lst [.str "net"]) := eN4 _ _ (s3 _ _ l2) fun ps z => nomatch z
  refine ⟨v6, v5, d6, d5, rfl, ⟨Dq.same hide_sub _ _ (Dn.dq _ _ h64), s6⟩, ⟨Dq.same hide_sub _ _ (Dn.dq _ _ h54), s5⟩, p5, fun z => absurd (z.symm.trans w6) (by decide), fun _ => met_net dc4 t4 fun a2 H5 s5' t5 e5 na5 l5 => ?_⟩
  refine ⟨[.ref a1], s5' _ _ l4, by simp, ?_⟩
  have l4' := s5' _ _ l4
  have ra2 : a2 ≠ R := fun z => na5 R _ l4 z.symm
  have a1R : a1 ≠ R := fun z => by rw [z, l4] at la4; cases la4
  have hkeep : ∀ {H' : Hp} {ys : List V} {o : HO}, Nt p H H' → (∀ b u, H b = some u → (∀ ps, u ≠ .tbl ps) → b ≠ R) → Nt p H (upd H' R o) := fun nt hR b u hb e n => by
    rw [upd_ne (hR b u e n)]
    exact nt b u hb e n
  have hR : ∀ b u, H b = some u → (∀ ps, u ≠ .tbl ps) → b ≠ R := fun b u e n z => by
    have := s2 _ _ (eN b u e n)
    rw [z, n3] at this
    cases this
  have nt5 : Nt p H H5 := nt1.trans (nt14.trans (Nt.same s5'))
  have nt6 : Nt p H (upd H5 R (.lst ([.ref a1] ++ [.ref a2]))) := hkeep (ys := []) nt5 hR
  have t6 : Tabs T (upd H5 R (.lst ([.ref a1] ++ [.ref a2]))) := tabs_upd t5 l4'
  have dc6 : Dc p m (upd H5 R (.lst ([.ref a1] ++ [.ref a2]))) := (dc4.same s5').upd hRp
  have l6 : upd H5 R (.lst ([.ref a1] ++ [.ref a2])) R = some (.lst ([.ref a1] ++ [.ref a2])) := upd_same
  have la6 : upd H5 R (.lst ([.ref a1] ++ [.ref a2])) a1 = some (.lst [.str "net"]) := by rw [upd_ne a1R]; exact s5' _ _ la4
  have lb6 : upd H5 R (.lst ([.ref a1] ++ [.ref a2])) a2 = some (.lst [.str "net"]) := by rw [upd_ne ra2]; exact l5
  generalize upd H5 R (.lst ([.ref a1] ++ [.ref a2])) = H6 at nt6 t6 dc6 l6 la6 lb6
  -- the third
  refine ⟨R, [.ref a1, .ref a2], rfl, l6, ?_⟩
  refine ⟨t6, fun H7 eN7 t7 => ?_⟩
  have nt7 : Nt p H H7 := nt6.trans (Nt.ext eN7)
  have h67 := Dn.keep nt7.keep _ _ h6
  have hv7 := Dn.keep nt7.keep _ _ hv
  have dc7 := Nt.dc dc6 eN7
  have l7 : H7 R = some (.lst [.ref a1, .ref a2]) := eN7 _ _ l6 fun ps z => nomatch z
  have la7 := eN7 _ _ la6 fun ps z => nomatch z
  have lb7 := eN7 _ _ lb6 fun ps z => nomatch z
  obtain ⟨na, S, xs, rfl, hna, hS, hx⟩ := net_vs hv7
  have hone := hg.one
  obtain ⟨r0, rest, hrows⟩ : ∃ r rest, rows = r :: rest := by
    cases rows with
    | nil => simp at hone
    | cons r rest => exact ⟨r, rest, rfl⟩
  rw [hrows] at hx
  obtain ⟨x0, xr, rfl, hx0, _⟩ : ∃ x0 xr, xs = x0 :: xr ∧ Dn K (hide [p] H7) x0 (rowD r0) ∧ True := by
    cases hx with
    | cons h1 h2 => exact ⟨_, _, rfl, h1, trivial⟩
  obtain ⟨ta, ra, rb, rfl, hta, _, _⟩ := row_vs hx0
  have G := hg.row r0 (by rw [hrows]; simp)
  refine .inr ⟨_, .ref S, hide_sub.sqT hna, rfl, ?_⟩
  refine .inr ⟨_, .ref ta, hide_sub.sqT hS, (show atI (V.ref ta :: xr) ((0 : Nat) : Int) = _ from atI_nat rfl), ?_⟩
  refine .inr ⟨_, .str r0.1, hide_sub.sqT hta, rfl, ?_⟩
  have sw : smQ (.str r0.1) = true := by
    have e : r0.1.length = r0.1.cps.toList.length := by show r0.1.cps.size = _; simp
    have := G.w.eight
    simp only [smQ, decide_eq_true_eq]
    omega
  refine ⟨v6, .str r0.1, d6, .str r0.1, rfl, ⟨Dq.same hide_sub _ _ (Dn.dq _ _ h67), s6⟩, ⟨.str _, sw⟩, by simp [PyData.depth], fun z => absurd (z.symm.trans w6) (by decide), fun _ => met_net dc7 t7 fun a3 H8 s8 t8 e8 na8 l8 => ?_⟩
  refine ⟨[.ref a1, .ref a2], s8 _ _ l7, by simp, ?_⟩
  have l7' := s8 _ _ l7
  have ra3 : a3 ≠ R := fun z => na8 R _ l7 z.symm
  have nt8 : Nt p H H8 := nt7.trans (Nt.same s8)
  have nt9 : Nt p H (upd H8 R (.lst ([.ref a1, .ref a2] ++ [.ref a3]))) := hkeep (ys := []) nt8 hR
  have t9 : Tabs T (upd H8 R (.lst ([.ref a1, .ref a2] ++ [.ref a3]))) := tabs_upd t8 l7'
  have dc9 : Dc p m (upd H8 R (.lst ([.ref a1, .ref a2] ++ [.ref a3]))) := (dc7.same s8).upd hRp
  have l9 : upd H8 R (.lst ([.ref a1, .ref a2] ++ [.ref a3])) R = some (.lst [.ref a1, .ref a2, .ref a3]) := upd_same
  have la9 : upd H8 R (.lst ([.ref a1, .ref a2] ++ [.ref a3])) a1 = some (.lst [.str "net"]) := by rw [upd_ne a1R]; exact s8 _ _ la7
  have lb9 : upd H8 R (.lst ([.ref a1, .ref a2] ++ [.ref a3])) a2 = some (.lst [.str "net"]) := by rw [upd_ne ra2]; exact s8 _ _ lb7
  have lc9 : upd H8 R (.lst ([.ref a1, .ref a2] ++ [.ref a3])) a3 = some (.lst [.str "net"]) := by rw [upd_ne ra3]; exact l8
  generalize upd H8 R (.lst ([.ref a1, .ref a2] ++ [.ref a3])) = H9 at nt9 t9 dc9 l9 la9 lb9 lc9
  refine ⟨by simp, fun z1 Ha sa n1 lz1 => ?_⟩
  refine ⟨by simp, fun z2 Hb sb n2 lz2 => ?_⟩
  refine ⟨z2, 3, [.ref z1], rfl, rfl, lz2, by decide, by decide, by simp, fun z3 Hc sc n3 lz3 => ?_⟩
  have s9c := (sa.trans sb).trans sc
  have nw : ∀ {x : Addr} {H' : Hp}, H' x = some (.lst [.str "net"]) → Dp K H' (.ref x) (.list [.str "net"]) := fun h => .lst (SqL.of h) (.cons (.str _) .nil)
  have lz1c := sc _ _ (sb _ _ lz1)
  refine ⟨.list [.list [.str "net"], .list [.str "net"], .list [.str "net"]], .list [.list [.str "net"], .list [.str "net"], .list [.str "net"]], .lst (SqL.of (s9c _ _ l9)) (.cons (nw (s9c _ _ la9)) (.cons (nw (s9c _ _ lb9)) (.cons (nw (s9c _ _ lc9)) .nil))), .lst (SqL.of lz3) (.cons (nw lz1c) (.cons (nw lz1c) (.cons (nw lz1c) .nil))), by decide +kernel, by decide +kernel, ?_⟩
  have ee : PyData.eqv (.list [.list [.str "net"], .list [.str "net"], .list [.str "net"]]) (.list [.list [.str "net"], .list [.str "net"], .list [.str "net"]]) = true := by decide +kernel
  show Q (.bl (PyData.eqv _ _)) Hc
  rw [ee]
  exact q Hc (nt9.trans (Nt.same s9c)) (tabs_same t9 s9c) (dc9.same s9c)
end
end K01

set_option Elab.async false
set_option linter.all false
set_option maxRecDepth 100000
set_option maxHeartbeats 4000000
namespace K01
open PySem L2 PySem.KX StX LamX PyProof.Rows
/-- a name to ask for -/
structure AskOk (d : PyData) : Prop where
  dp : d.depth ≤ 10
  sm : smQ d = true
  nd : d.hasDict = false ∨ d = .dict []
  sb : d.showable = true
  sz : d.shown.length ≤ sizeLine
  so : PyData.strOk d.shown = true
theorem good_rowL {n : Int} {r : RowN} (g : GoodR n r) : RowL n r := ⟨g.w, g.i.inn, g.o.inn, by have := g.i.few; omega, by have := g.o.few; omega⟩
theorem net_few {n : Int} {rows : List RowN} (hg : GoodN n rows) (h5 : rows.length ≤ 5) : Few 0 (rows.map rowD) := rows_few (fun r hr => good_rowL (hg.row r hr)) hg.hi h5
theorem net_sm {n : Int} {rows : List RowN} (hg : GoodN n rows) (h5 : rows.length ≤ 5) : smQ (netOf n rows) = true := by
  have F := net_few hg h5
  have := F.few
  unfold netOf
  simp only [smQ, smQAll, F.smq, Bool.and_true, Bool.and_eq_true, decide_eq_true_eq]
  exact ⟨by simp, by first | omega | (simp only [List.length_map]; omega) | (simp; omega)⟩
theorem pass0 {P : Program} {w : World} {X : Cx} : Passes (L2.CX P w) X E0 := fun pins σ H s e s' I h => by
  obtain ⟨_, _, _, _, _, _, _, _, _, _, _, _, z⟩ := h
  exact z.elim
section
variable {P : Program} {w : World} {K : PySem.W.Frag} {mg : Str → Option Value} {base : Heap} {f : Addr} {cdv : Value} {A : Around} {outer : List Env} {s : Shared} {H0 : Hp} {E0' : XK} {c : MetC} {T : List (Addr × Str)}
theorem sr_ask (TA : TxtA mg) (M : MetK K mg c) (LK : LamK base mg cdv T qSr) (hr : RoomG 17 (A.deeper (envOfC "_law_steps_right" (defScope s_law_steps_right) s.heap.objs.size f cdv)))
    (O_names : Own P w K mg base (L2.CX P w) "step_names" 7 ["net"] (spNames K c.cI)) (O_in : Own P w K mg base (L2.CX P w) "inputs_of" 15 ["net", "name"] (spPart K c.cI c.cS fun b _ => b)) (O_out : Own P w K mg base (L2.CX P w) "outputs_of" 15 ["net", "name"] (spPart K c.cI c.cS fun _ b => b))
    {p : Addr} {m : Int} {H : Hp} {Q : VK} {v v5 v6 : V} {n : Int} {rows : List RowN} {d5 d6 : PyData} {o2 o3 o4 o7 o8 o9 : Option V} (dc : Dc p m H) (tb : Tabs T H) (hg : GoodN n rows) (hr5 : rows.length ≤ 5) (hv : Dn K (hide [p] H) v (netOf n rows)) (h5 : Dn K (hide [p] H) v5 d5) (a5 : AskOk d5) (h6 : Dn K (hide [p] H) v6 d6) (w6 : netD d6 = false) (s6 : smQ d6 = true)
    (q : ∀ H', Nt p H H' → Tabs T H' → Dc p m H' → Q (.bl true) H') :
    ∃ t, PSs (X_sr P w K mg base f cdv A outer s H0 E0') ((defBody s_law_steps_right).drop 4) t ∧ t { nx := fun _ H' => Q .non H', rt := Q } [some (.ref p), some v, o2, o3, o4, some v5, some v6, o7, o8, o9] H := by
  have nd := sc_law_steps_right.nd
  have hrg : (A.deeper (envOfC "_law_steps_right" (defScope s_law_steps_right) s.heap.objs.size f cdv)).guards = some [] := hr.g
  have hrep : mg "repr" = none := M.txt.repr
  have hL : ∀ sc, lamSB (defScope s_law_steps_right) sc = true → LamS (X_sr P w K mg base f cdv A outer s H0 E0').env.scope sc := fun _ h => lamS_by h
  obtain ⟨fi, fdi, Fi, mi, ki, bi⟩ := O_in.ex
  obtain ⟨fo, fdo, Fo, mo, ko, bo⟩ := O_out.ex
  refine ⟨_, (pss_cut (ps_if (pt_cmpA (op_notInW hr.units64) (av 5) (pe_lc (own := [("step", 9)]) (by rfl) nd (pi_tup (pe_ixA (av 1) pe_int)) (blkOk_by (N := N_sr) (sc := defScope s_law_steps_right) (by decide +kernel)) (fun _ _ _ _ _ => (pg_name (i := 9) nd rfl (Or.inl rfl))) (fun _ _ _ _ _ => pts_nil) (fun _ _ _ _ _ => (show PE _ _ (tOp (rIxA K) (aVar 9) (tC (.int 0))) from pe_ixA (av 9) pe_int))))
        (pss_one (ps_for PassesOwn.never rfl (pi_tup (pe_tupS (pa_cons (pe_gref mi) (pa_cons (pe_gref mo) pa_nil)))) (pg_name (i := 7) nd rfl (Or.inr rfl)) (pss_one (ps_if (pt_cmpA (op_neA hr.units64)
          (pe_met M LK hr (hL _ (by decide +kernel)) rfl (fun _ _ _ _ _ => rfl) (fun A outer s H E f c' hr2 => show PE _ _ (fun σ H Q => (σ[7]? = some (some (.ref fi)) ∧ tCall (spPart K c.cI c.cS fun b _ => b) [] E (tCons (aVar 1) (tCons (aVar 5) tNil)) σ H Q) ∨ (σ[7]? = some (some (.ref fo)) ∧ tCall (spPart K c.cI c.cS fun _ b => b) [] E (tCons (aVar 1) (tCons (aVar 5) tNil)) σ H Q)) from
            pe_callV (i := 7) (X := lamCx (X_sr P w K mg base _ _ _ _ _ H0 E0') A outer s H E _ f c') Fi Fo hr2 rfl (Or.inr (Or.inr rfl)) ki ko bi bo (lamPass (X := X_sr P w K mg base _ _ _ _ _ H0 E0')) (pa_cons (av 1) (pa_cons (av 5) pa_nil))))
          (pe_lstS (pa_cons pe_str (pa_cons (pe_callB (call_reprW hr.units64 hrg) (by rfl) hrep (by decide +kernel) (pa_cons (av 5) pa_nil)) pa_nil)))) (pss_one (ps_ret pe_bl)) pss_nil)))) pss_nil)
      pss_any), ?_⟩
  obtain ⟨na, S, xs, rfl, hna, hS, hx⟩ := net_vs hv
  have hxl := hx.length
  rw [List.length_map] at hxl
  refine ⟨fun σ H' => ∃ o7', σ = [some (.ref p), some (.ref na), o2, o3, o4, some v5, some v6, o7', o8, o9] ∧ Nt p H H' ∧ Tabs T H' ∧ Dc p m H', ?_, ?_⟩
  · refine .inr ⟨_, .ref S, hide_sub.sqT hna, rfl, ?_⟩
    refine ⟨S, rfl, ⟨_, hide_sub.sqT hS⟩, fun D hD => ?_⟩
    refine lc_it (walk_tup (xs := xs)) (fun t H' => H' D = some (.lst (((rows.take t).map (·.1)).map V.str)) ∧ Same H H')
      ⟨upd_same, (Same.refl _).new hD⟩ (fun t H' _ ⟨_, s⟩ => s.sqT (hide_sub.sqT hS)) ?_ ?_
    · rintro t x H2 H3 ht ⟨hD2, s2⟩ ⟨rfl, hx2⟩
      obtain ⟨d, hd, hdn⟩ := hx.get hx2
      obtain ⟨r, hr1, rfl⟩ : ∃ r, rows[t]? = some r ∧ rowD r = d := by
        rw [List.getElem?_map] at hd
        cases e : rows[t]? with
        | none => rw [e] at hd; cases hd
        | some r => rw [e] at hd; exact ⟨r, rfl, Option.some.inj hd⟩
      obtain ⟨ta, ra, rb, rfl, h3, _, _⟩ := row_vs hdn
      refine ⟨rfl, ?_⟩
      refine .inr ⟨_, .str r.1, s2.sqT (hide_sub.sqT h3), rfl, ?_⟩
      refine ⟨_, hD2, by simp only [List.length_map, List.length_take, sizeLine_eq]; omega, ?_, fun b o e => ?_⟩
      · rw [upd_same, List.take_add_one, hr1]
        simp
      · rw [upd_ne (ne_of_none e hD)]
        exact s2 _ _ e
    · rintro H2 ⟨hD2, s2⟩
      rw [List.take_of_length_le (by omega)] at hD2
      have h5' := Dq.same s2 _ _ (Dq.same hide_sub _ _ (Dn.dq _ _ h5))
      refine ⟨D, rows.map (·.1), d5, rfl, SqL.of hD2, h5', ?_⟩
      have nt2 : Nt p H H2 := Nt.same s2
      have t2 := tabs_same tb s2
      have dc2 := dc.same s2
      refine ite2 (fun cnot => ?_) (fun _ => ⟨_, rfl, nt2, t2, dc2⟩)
      have hnot : ∀ (i : Nat) (x : Str) (b c : PyData), (rows.map rowD)[i]? = some (.tuple [.str x, b, c]) → isStrD x d5 = false := fun i x b c e => by
        rw [List.getElem?_map] at e
        cases e2 : rows[i]? with
        | none => rw [e2] at e; cases e
        | some r =>
          rw [e2] at e
          have e3 : PyData.tuple [.str r.1, tupI r.2.1, tupI r.2.2] = .tuple [.str x, b, c] := Option.some.inj e
          cases e3
          cases k : isStrD r.1 d5 with
          | false => rfl
          | true =>
            have : (rows.map (·.1)).any (fun a => isStrD a d5) = true := List.any_eq_true.mpr ⟨r.1, List.mem_map.mpr ⟨r, List.mem_of_getElem? e2, rfl⟩, k⟩
            rw [this] at cnot
            exact absurd cnot (by decide)
      refine ⟨by simp, fun F H4 s4 n4 l4 => ?_⟩
      have nt4 : Nt p H H4 := nt2.trans (Nt.same s4)
      have hF : F ≠ p := dc2.ne n4
      have hF4 : SqT K (hide [p] H4) F [.ref fi, .ref fo] := SqT.of (hid_of hF l4)
      refine ⟨F, rfl, ⟨_, SqT.of l4⟩, ?_⟩
      refine for_it (walk_tup (xs := [.ref fi, .ref fo])) (fun _ σ H' => ∃ o, σ = [some (.ref p), some (.ref na), o2, o3, o4, some v5, some v6, o, o8, o9] ∧ Nt p H4 H' ∧ Tabs T H' ∧ Dc p m H')
        ⟨_, rfl, Nt.refl, tabs_same t2 s4, dc2.same s4⟩ (fun _ _ H' _ ⟨_, _, nt, _, _⟩ => hide_sub.sqT (sqT_keep nt.keep hF4)) ?_ ?_
      · rintro i x σ H5 H6 hi ⟨o, rfl, nt5, t5, dc5⟩ ⟨rfl, hxx⟩
        have fin : ∀ (sel : PyData → PyData → PyData) {H10 : Hp} {Q0 : VK} (eN : ExtN H6 H10) (t10 : Tabs T H10) (hQ : ∀ (a : Addr) (H2 : Hp), Tabs T H2 → Nt p H6 H2 → Dc p m H2 → H2 a = some (.lst [.str "step", .str d5.shown]) → Q0 (.ref a) H2), spPart K c.cI c.cS sel [.ref na, v5] H10 (metR Q0) (metE K c Q0) := fun sel {H10 Q0} eN t10 hQ => by
          have nt10 : Nt p H H10 := nt4.trans (nt5.trans (Nt.ext eN))
          have hv10 := Dn.keep nt10.keep _ _ hv
          have h510 := Dn.keep nt10.keep _ _ h5
          have dc10 := Nt.dc dc5 eN
          refine ⟨.ref na, v5, netOf n rows, d5, rfl, ⟨Dq.same hide_sub _ _ (Dn.dq _ _ hv10), net_sm hg hr5⟩, ⟨Dq.same hide_sub _ _ (Dn.dq _ _ h510), a5.sm⟩, a5.dp, fun _ n' es e => ?_, fun z => absurd (z.symm.trans (net_good hg)) (by decide)⟩
          have e3 : PyData.tuple [.int n, .tuple (rows.map rowD)] = .tuple [.int n', .tuple es] := e
          cases e3
          refine ⟨fun i x b c r H' he hs => absurd ((hnot i x b c he).symm.trans hs) (by decide), fun _ dx v' H' s n0 ex hv' => ?_⟩
          refine .inl ⟨dx, v', d5, rfl, rfl, ex, ⟨?_, a5.sb, by have := a5.dp; omega, a5.sz⟩, fun a H2 s2' na2 l2' => hQ a H2 (tabs_same t10 (s.trans s2')) ((Nt.ext eN).trans (Nt.same (s.trans s2'))) (dc10.same (s.trans s2')) l2'⟩
          rcases a5.nd with z | z
          · exact .inl ⟨z, hv'⟩
          · subst z
            cases hv' with
            | emp z => exact .inr (.emp z)
        have hx3 := List.mem_of_getElem? hxx
        simp only [List.mem_cons, List.not_mem_nil, or_false] at hx3
        rcases hx3 with rfl | rfl
        · refine ⟨t5, fun H10 eN t10 => .inl ⟨rfl, ?_⟩⟩
          refine fin _ eN t10 fun a H2 t2' nt2' dc2' l2' => ?_
          have h52 := Dn.keep (nt4.trans (nt5.trans nt2')).keep _ _ h5
          refine ⟨v5, d5, rfl, .inr (Dn.same hide_sub _ _ h52), a5.sb, by have := a5.dp; omega, a5.sz, ?_⟩
          refine ⟨by simp, fun b2 H9 s9 n9 l9 => ?_⟩
          have shp : SeqAt.shaped (.list [.str "step", .str d5.shown]) = true := shp_two ⟨by decide +kernel, by decide +kernel⟩ a5.so
          refine ⟨.list [.str "step", .str d5.shown], .list [.str "step", .str d5.shown], .lst (SqL.of (s9 _ _ l2')) (.cons (.str _) (.cons (.str _) .nil)), .lst (SqL.of l9) (.cons (.str _) (.cons (.str _) .nil)), shp, shp, ?_⟩
          have ee : PyData.eqv (.list [.str "step", .str d5.shown]) (.list [.str "step", .str d5.shown]) = true := (eqv_strs (ns := ["step", d5.shown]) (ms := ["step", d5.shown])).mpr rfl
          refine ite2 (fun z => absurd z (by rw [ee]; decide)) (fun _ => ?_)
          exact ⟨_, rfl, nt5.trans (nt2'.trans (Nt.same s9)), tabs_same t2' s9, dc2'.same s9⟩
        · refine ⟨t5, fun H10 eN t10 => .inr ⟨rfl, ?_⟩⟩
          refine fin _ eN t10 fun a H2 t2' nt2' dc2' l2' => ?_
          have h52 := Dn.keep (nt4.trans (nt5.trans nt2')).keep _ _ h5
          refine ⟨v5, d5, rfl, .inr (Dn.same hide_sub _ _ h52), a5.sb, by have := a5.dp; omega, a5.sz, ?_⟩
          refine ⟨by simp, fun b2 H9 s9 n9 l9 => ?_⟩
          have shp : SeqAt.shaped (.list [.str "step", .str d5.shown]) = true := shp_two ⟨by decide +kernel, by decide +kernel⟩ a5.so
          refine ⟨.list [.str "step", .str d5.shown], .list [.str "step", .str d5.shown], .lst (SqL.of (s9 _ _ l2')) (.cons (.str _) (.cons (.str _) .nil)), .lst (SqL.of l9) (.cons (.str _) (.cons (.str _) .nil)), shp, shp, ?_⟩
          have ee : PyData.eqv (.list [.str "step", .str d5.shown]) (.list [.str "step", .str d5.shown]) = true := (eqv_strs (ns := ["step", d5.shown]) (ms := ["step", d5.shown])).mpr rfl
          refine ite2 (fun z => absurd z (by rw [ee]; decide)) (fun _ => ?_)
          exact ⟨_, rfl, nt5.trans (nt2'.trans (Nt.same s9)), tabs_same t2' s9, dc2'.same s9⟩
      · rintro σ H5 ⟨o, rfl, nt5, t5, dc5⟩
        exact ⟨_, rfl, nt4.trans nt5, t5, dc5⟩
  · rintro σ H' ⟨o7', rfl, nt, t', dc'⟩
    exact sr_wrong TA M LK hr O_names O_in O_out dc' t' hg (Dn.keep nt.keep _ _ hv) (Dn.keep nt.keep _ _ h5) a5.sm a5.dp (Dn.keep nt.keep _ _ h6) w6 s6 fun H2 a b c => q H2 (nt.trans a) b c
end
end K01

set_option Elab.async false
set_option linter.all false
set_option maxRecDepth 100000
set_option maxHeartbeats 4000000
namespace K01
open PySem L2 PySem.KX StX LamX PyProof.Rows
theorem ask_md {k W D : Nat} {d : PyData} (h : Md k W D d) (hk : k ≤ 7) (hW : W ≤ 150000) (hD : D ≤ 10) (nd : d.hasDict = false ∨ d = .dict []) : AskOk d := by
  have o := okB_sm (k := k) (by omega) d h.ok
  exact ⟨by have := h.dp; omega, o.1, nd, o.2.2.1, h.shown (by omega) (by omega), (okT_shown d h.ok).ok⟩
theorem shw_md {k W D : Nat} {d : PyData} (h : Md k W D d) (hk : k ≤ 7) (hW : W ≤ 150000) (hD : D ≤ 50) (nd : d.hasDict = false) : Shw d := by
  have o := okB_sm (k := k) (by omega) d h.ok
  exact ⟨nd, o.2.2.1, by have := h.dp; omega, h.shown (by omega) (by omega)⟩
def words : List PyData := [.none, .str "", .str "A", .int 7, .tuple [], .list [.str "a"], .dict [], .bool true, .str "stepless"]
theorem word_ok (d : PyData) (h : d ∈ words) : AskOk d := by
  have e : words.all (fun d => okB 0 d && (decide (d.weight ≤ 1000) && decide (d.depth ≤ 5))) = true := by decide +kernel
  have b := List.all_eq_true.mp e d h
  simp only [Bool.and_eq_true, decide_eq_true_eq] at b
  refine ask_md ⟨b.1, b.2.1, b.2.2⟩ (by decide) (by decide) (by decide) ?_
  simp only [words, List.mem_cons, List.not_mem_nil, or_false] at h
  rcases h with rfl | rfl | rfl | rfl | rfl | rfl | rfl | rfl | rfl <;> first | exact .inl rfl | exact .inr rfl
theorem wordz_ok {x : Str} (h : WordS x) : AskOk (.str (x ++ "z")) := by
  have e : (x ++ "z").cps.toList = x.cps.toList ++ [122] := by
    show (x.cps ++ #[122]).toList = _
    simp
  have el : (x ++ "z").length = x.cps.toList.length + 1 := by
    have : (x ++ "z").length = (x ++ "z").cps.toList.length := by show (x ++ "z").cps.size = _; simp
    rw [this, e]
    simp
  have h8 := h.eight
  have ok : okB 0 (.str (x ++ "z")) = true := by
    simp only [okB, Bool.and_eq_true, decide_eq_true_eq]
    refine ⟨by omega, List.all_eq_true.mpr fun c hc => ?_⟩
    rw [e] at hc
    rcases List.mem_append.mp hc with z | z
    · have := lowL_iff.mp (List.all_eq_true.mp h.low c z)
      exact decide_eq_true (by omega)
    · rw [List.mem_singleton.mp z]; decide
  have hw : PyData.weight (.str (x ++ "z")) = (x ++ "z").length := rfl
  exact ask_md (W := 1000) (D := 2) ⟨ok, by rw [hw]; omega, by simp [PyData.depth]⟩ (by decide) (by decide) (by decide) (.inl rfl)
theorem row_ask {n : Int} {r : RowN} (g : GoodR n r) (hn : n ≤ 30) : AskOk (rowD r) := ask_md ((good_rowL g).md hn) (by decide) (by decide) (by decide) (.inl (plain_nodict _ (plain_row r)))
/-- the names of the steps, as a tuple -/
theorem names_shw {n : Int} {rows : List RowN} (hg : GoodN n rows) (h5 : rows.length ≤ 5) : Shw (.tuple ((rows.map (·.1)).map PyData.str)) := by
  have hw : ∀ r ∈ rows, r.1.length ≤ 8 := fun r hr => by
    have e : r.1.length = r.1.cps.toList.length := by show r.1.cps.size = _; simp
    have := (hg.row r hr).w.eight
    omega
  have m : Md 0 1000 3 (.tuple ((rows.map (·.1)).map PyData.str)) := by
    refine Md.tup (by simp; omega) (fun d hd => ?_) ?_ (fun d hd => ?_) (by omega)
    · obtain ⟨x, hx, rfl⟩ := List.mem_map.mp hd
      obtain ⟨r, hr, rfl⟩ := List.mem_map.mp hx
      have e := okB_up (k := 0)
      have := ((good_rowL (hg.row r hr)).md hg.hi).ok
      simp only [rowD, okB, okBAll, Bool.and_eq_true] at this
      simp only [okB, Bool.and_eq_true]
      exact this.2.1
    · have := weight_rows (W := 8) (ds := (rows.map (·.1)).map PyData.str) fun d hd => by
        obtain ⟨x, hx, rfl⟩ := List.mem_map.mp hd
        obtain ⟨r, hr, rfl⟩ := List.mem_map.mp hx
        exact hw r hr
      simp only [List.length_map] at this
      omega
    · obtain ⟨x, hx, rfl⟩ := List.mem_map.mp hd
      simp [PyData.depth]
  refine shw_md m (by decide) (by decide) (by decide) ?_
  simp only [PyData.hasDict]
  have : ∀ l : List Str, PyData.hasDictAll (l.map PyData.str) = false := fun l => by
    induction l with
    | nil => rfl
    | cons x r ih => simp only [List.map_cons, PyData.hasDictAll, PyData.hasDict, ih, Bool.or_self]
  exact this _
theorem names_eq (rows : List RowN) : (rows.map rowD).map firstD = (rows.map (·.1)).map PyData.str := by
  rw [List.map_map, List.map_map]
  rfl
theorem row_same {n : Int} {rows : List RowN} (hg : GoodN n rows) {r r' : RowN} (h : r ∈ rows) (h' : r' ∈ rows) (e : r.1 = r'.1) : r = r' := by
  have nd := rows_names hg.asc
  clear hg
  induction rows with
  | nil => exact absurd h List.not_mem_nil
  | cons a l ih =>
    rw [List.map_cons, List.nodup_cons] at nd
    rcases List.mem_cons.mp h with rfl | h1
    · rcases List.mem_cons.mp h' with rfl | h2
      · rfl
      · exact absurd (List.mem_map.mpr ⟨r', h2, e.symm⟩) nd.1
    · rcases List.mem_cons.mp h' with rfl | h2
      · exact absurd (List.mem_map.mpr ⟨r, h1, e⟩) nd.1
      · exact ih h1 h2 nd.2
/-- a row's two sides, as a list -/
theorem sides_shw {n : Int} {r : RowN} (g : GoodR n r) (hn : n ≤ 30) : Shw (.list [tupI r.2.1, tupI r.2.2]) := by
  have m := (good_rowL g).md hn
  obtain ⟨_, p2, p3, p4, _⟩ := m.parts
  have m2 : Md 0 22000 2 (.list [tupI r.2.1, tupI r.2.2]) := by
    refine Md.lst (by simp) (fun d hd => p2 d (by simp only [List.mem_cons, List.not_mem_nil, or_false] at hd ⊢; exact .inr hd)) ?_ (fun d hd => p4 d (by simp only [List.mem_cons, List.not_mem_nil, or_false] at hd ⊢; exact .inr hd)) (by omega)
    simp only [PyData.weightAll] at p3 ⊢
    omega
  refine shw_md m2 (by decide) (by decide) (by decide) ?_
  have h1 := plain_nodict _ (plain_ints r.2.1)
  have h2 := plain_nodict _ (plain_ints r.2.2)
  simp only [PyData.hasDict, PyData.hasDictAll, Bool.or_false] at h1 h2 ⊢
  rw [h1, h2]
  rfl
end K01

set_option Elab.async false
set_option linter.all false
set_option maxRecDepth 100000
set_option maxHeartbeats 4000000
namespace K01
open PySem L2 PySem.KX StX LamX PyProof.Rows
/-- no net -/
structure NoNet (d : PyData) : Prop where
  no : netD d = false
  sm : smQ d = true
def wrongs (n : Int) (rs : List PyData) : List PyData := [.none, .tuple [], .tuple [.int n], .list [.int n, .tuple rs], .tuple [.int n, .tuple []], .tuple [.int 1, .tuple rs], .tuple [.int n, .tuple (rs ++ rs)], .dict []]
theorem smQAll_app : ∀ {as bs : List PyData}, smQAll as = true → smQAll bs = true → smQAll (as ++ bs) = true
  | [], _, _, h => h
  | a :: r, bs, h, k => by
    rw [List.cons_append]
    simp only [smQAll, Bool.and_eq_true] at h ⊢
    exact ⟨h.1, smQAll_app h.2 k⟩
theorem twice_no {n : Int} {rows : List RowN} (hg : GoodN n rows) : netD (.tuple [.int n, .tuple (rows.map rowD ++ rows.map rowD)]) = false := by
  cases h : netD (.tuple [.int n, .tuple (rows.map rowD ++ rows.map rowD)]) with
  | false => rfl
  | true =>
    have h' : ((decide (2 ≤ n) && decide (n ≤ 30)) && ((decide (1 ≤ (rows.map rowD ++ rows.map rowD).length) && decide ((rows.map rowD ++ rows.map rowD).length ≤ 40)) && ((rows.map rowD ++ rows.map rowD).all (stepD n) && ascD ((rows.map rowD ++ rows.map rowD).map firstD)))) = true := h
    simp only [Bool.and_eq_true] at h'
    have ha := h'.2.2.2
    rw [List.map_append, names_eq, ← List.map_append, asc_strs] at ha
    have hone := hg.one
    match rows, hone with
    | r :: l, _ =>
      rw [List.map_cons, List.cons_append, List.pairwise_cons] at ha
      exact absurd (ha.1 r.1 (by simp)) (ltT_irr _)
theorem wrong_no {n : Int} {rows : List RowN} (hg : GoodN n rows) (h5 : rows.length ≤ 5) (d : PyData) (h : d ∈ wrongs n (rows.map rowD)) : NoNet d := by
  have F := net_few hg h5
  have fs := F.smq
  have fl := F.few
  simp only [wrongs, List.mem_cons, List.not_mem_nil, or_false] at h
  have t2 : ∀ (k : Int), smQ (.tuple [.int k, .tuple (rows.map rowD)]) = true := fun k => by
    simp only [smQ, smQAll, fs, Bool.and_true, Bool.and_eq_true, decide_eq_true_eq]
    exact ⟨by simp, by first | omega | (simp only [List.length_map]; omega) | (simp; omega)⟩
  rcases h with rfl | rfl | rfl | rfl | rfl | rfl | rfl | rfl
  · exact ⟨rfl, rfl⟩
  · exact ⟨rfl, by decide +kernel⟩
  · exact ⟨rfl, by simp [smQ, smQAll]⟩
  · refine ⟨rfl, ?_⟩
    simp only [smQ, smQAll, fs, Bool.and_true, Bool.and_eq_true, decide_eq_true_eq]
    exact ⟨by simp, by first | omega | (simp only [List.length_map]; omega) | (simp; omega)⟩
  · refine ⟨?_, by simp [smQ, smQAll]⟩
    show ((decide (2 ≤ n) && decide (n ≤ 30)) && ((decide (1 ≤ 0) && decide (0 ≤ 40)) && _)) = false
    rw [show (decide (1 ≤ 0)) = false from rfl]
    simp
  · exact ⟨rfl, t2 1⟩
  · refine ⟨twice_no hg, ?_⟩
    simp only [smQ, smQAll, smQAll_app fs fs, Bool.and_true, Bool.and_eq_true, decide_eq_true_eq]
    exact ⟨by simp, by simp; omega⟩
  · exact ⟨rfl, by decide +kernel⟩
def spSteps (K : PySem.W.Frag) (T : List (Addr × Str)) : Sp := fun vs H Q _ => ∃ (p : Addr) (v : V) (m n : Int) (rows : List RowN), vs = [.ref p, v] ∧ Dc p m H ∧ m + 20000 < 2 ^ 30 ∧ Tabs T H ∧ GoodN n rows ∧ rows.length ≤ 5 ∧ Dn K (hide [p] H) v (netOf n rows) ∧
  ∀ H', Nt p H H' → Tabs T H' → Dc p (m + 500) H' → Q (.bl true) H'
section
variable {P : Program} {w : World} {K : PySem.W.Frag} {mg : Str → Option Value} {base : Heap} {f : Addr} {cdv : Value} {A : Around} {outer : List Env} {s : Shared} {H0 : Hp} {E0' : XK} {c : MetC} {T : List (Addr × Str)}
/-- the two draws -/
theorem sr_draw (TA : TxtA mg) (TX : TxtX mg) (M : MetK K mg c) (LK : LamK base mg cdv T qSr) (hr : RoomG 17 (A.deeper (envOfC "_law_steps_right" (defScope s_law_steps_right) s.heap.objs.size f cdv)))
    (O_one : Own P w K mg base CX0 "_law_one_of" 2 ["dice", "items"] spOneD) (O_names : Own P w K mg base (L2.CX P w) "step_names" 7 ["net"] (spNames K c.cI)) (O_in : Own P w K mg base (L2.CX P w) "inputs_of" 15 ["net", "name"] (spPart K c.cI c.cS fun b _ => b)) (O_out : Own P w K mg base (L2.CX P w) "outputs_of" 15 ["net", "name"] (spPart K c.cI c.cS fun _ b => b))
    {p : Addr} {m : Int} {H : Hp} {Q : VK} {v : V} {n : Int} {rows : List RowN} {o2 o3 o4 o5 o6 o7 o8 o9 : Option V} (dc : Dc p m H) (hm : m + 10 < 2 ^ 30) (tb : Tabs T H) (hg : GoodN n rows) (hr5 : rows.length ≤ 5) (hv : Dn K (hide [p] H) v (netOf n rows))
    (q : ∀ H', Nt p H H' → Tabs T H' → Dc p (m + 10) H' → Q (.bl true) H') :
    ∃ t, PSs (X_sr P w K mg base f cdv A outer s H0 E0') ((defBody s_law_steps_right).drop 2) t ∧ t { nx := fun _ H' => Q .non H', rt := Q } [some (.ref p), some v, o2, o3, o4, o5, o6, o7, o8, o9] H := by
  have nd := sc_law_steps_right.nd
  refine ⟨_, (pss_cons (ps_set (i := 5) nd rfl (Or.inr rfl) (pe_own O_one hr (pa_cons (av 0) (pa_cons (pe_lstS (pa_cons pe_non (pa_cons pe_str (pa_cons pe_str (pa_cons pe_int (pa_cons (pe_tupS pa_nil) (pa_cons (pe_lstN (pa_cons pe_str pa_nil)) (pa_cons pe_dnewK (pa_cons pe_bl (pa_cons (pe_op op_addS (pe_ixA (pe_ixA (pe_ixA (av 1) pe_int) pe_int) pe_int) pe_str) (pa_cons pe_str (pa_cons (pe_ixA (pe_ixA (av 1) pe_int) pe_int) pa_nil)))))))))))) pa_nil)) (by decide)))
      (pss_cons (ps_set (i := 6) nd rfl (Or.inr rfl) (pe_own O_one hr (pa_cons (av 0) (pa_cons (pe_lstS (pa_cons pe_non (pa_cons (pe_tupS pa_nil) (pa_cons (pe_slice sl_tupS (av 1) po_none (po_some pe_int)) (pa_cons (pe_callTy call_lstN (by rfl) TX.list (by decide +kernel) (pa_cons (av 1) pa_nil)) (pa_cons (pe_tupS (pa_cons (pe_ixA (av 1) pe_int) (pa_cons (pe_tupS pa_nil) pa_nil))) (pa_cons (pe_tupS (pa_cons pe_int (pa_cons (pe_ixA (av 1) pe_int) pa_nil))) (pa_cons (pe_tupS (pa_cons (pe_ixA (av 1) pe_int) (pa_cons (pe_op op_addS (pe_ixA (av 1) pe_int) (pe_ixA (av 1) pe_int)) pa_nil))) (pa_cons pe_dnewK pa_nil))))))))) pa_nil)) (by decide)))
      pss_any)), ?_⟩
  obtain ⟨na, S, xs, rfl, hna, hS, hx⟩ := net_vs hv
  have hone := hg.one
  obtain ⟨r0, rest, hrows⟩ : ∃ r rest, rows = r :: rest := by
    cases rows with
    | nil => simp at hone
    | cons r rest => exact ⟨r, rest, rfl⟩
  have hr0 : r0 ∈ rows := by rw [hrows]; simp
  obtain ⟨x0, xr, rfl, hx0⟩ : ∃ x0 xr, xs = x0 :: xr ∧ Dn K (hide [p] H) x0 (rowD r0) := by
    rw [hrows] at hx
    cases hx with
    | cons h1 h2 => exact ⟨_, _, rfl, h1⟩
  obtain ⟨ta, ra, rb, rfl, hta, _, _⟩ := row_vs hx0
  have G := hg.row r0 hr0
  have hna' := hide_sub.sqT hna
  have hS' := hide_sub.sqT hS
  have hta' := hide_sub.sqT hta
  have xlen : r0.1.length ≤ 8 := by
    have e : r0.1.length = r0.1.cps.toList.length := by show r0.1.cps.size = _; simp
    have := G.w.eight
    omega
  refine ⟨by simp, fun T1 H1 s1 n1 l1 => ?_⟩
  refine ⟨by simp, fun L2' H2 b2 s2 n2 l2 => ?_⟩
  intro D3 nD
  have s3 : Same H2 (upd H2 D3 (.dK [])) := (Same.refl _).new nD
  have l3 : upd H2 D3 (.dK []) D3 = some (.dK []) := upd_same
  generalize upd H2 D3 (.dK []) = H3 at s3 l3
  have s03 := (s1.trans s2).trans s3
  refine .inr ⟨_, .ref S, s03.sqT hna', rfl, ?_⟩
  refine .inr ⟨_, .ref ta, s03.sqT hS', (show atI (V.ref ta :: xr) ((0 : Nat) : Int) = _ from atI_nat rfl), ?_⟩
  refine .inr ⟨_, .str r0.1, s03.sqT hta', rfl, ?_⟩
  refine ⟨Nat.le_trans (Nat.add_le_add xlen (show Str.length "z" ≤ 1 by decide +kernel)) (by decide), ?_⟩
  refine .inr ⟨_, .ref S, s03.sqT hna', rfl, ?_⟩
  refine .inr ⟨_, .ref ta, s03.sqT hS', (show atI (V.ref ta :: xr) ((0 : Nat) : Int) = _ from atI_nat rfl), ?_⟩
  refine ⟨by simp, fun L4 H4 s4 n4 l4 => ?_⟩
  have e1 : T1 ≠ p := dc.ne n1
  have e2 : L2' ≠ p := (dc.same s1).ne n2
  have e3 : D3 ≠ p := (dc.same (s1.trans s2)).ne nD
  have e4 : L4 ≠ p := (dc.same s03).ne n4
  have s04 := s03.trans s4
  have nt4 : Nt p H H4 := Nt.same s04
  have hall : DnAll K (hide [p] H4) [.non, .str "", .str "A", .int 7, .ref T1, .ref L2', .ref D3, .bl true, .str (r0.1 ++ "z"), .str "stepless", .ref ta] [.none, .str "", .str "A", .int 7, .tuple [], .list [.str "a"], .dict [], .bool true, .str (r0.1 ++ "z"), .str "stepless", rowD r0] :=
    .cons .non (.cons (.str _) (.cons (.str _) (.cons (.int _) (.cons (.tup (SqT.of (hid_of e1 (((s2.trans s3).trans s4) _ _ l1))) .nil) (.cons (.lst (SqL.of (hid_of e2 ((s3.trans s4) _ _ l2))) b2 (.cons (.str _) .nil)) (.cons (.emp (hid_of e3 (s4 _ _ l3))) (.cons (.bl _) (.cons (.str _) (.cons (.str _) (.cons (Dn.keep nt4.keep _ _ hx0) .nil))))))))))
  refine ⟨p, L4, m, _, rfl, dc.same s04, l4, by omega, e4, by simp, by simp, fun i v5 H5 hi dc5 q5 => ?_⟩
  obtain ⟨d5, hd5, hdn5⟩ := hall.get hi
  have a5 : AskOk d5 := by
    have := List.mem_of_getElem? hd5
    simp only [List.mem_cons, List.not_mem_nil, or_false] at this
    rcases this with rfl | rfl | rfl | rfl | rfl | rfl | rfl | rfl | rfl | rfl | rfl
    · exact word_ok _ (by simp [words])
    · exact word_ok _ (by simp [words])
    · exact word_ok _ (by simp [words])
    · exact word_ok _ (by simp [words])
    · exact word_ok _ (by simp [words])
    · exact word_ok _ (by simp [words])
    · exact word_ok _ (by simp [words])
    · exact word_ok _ (by simp [words])
    · exact wordz_ok G.w
    · exact word_ok _ (by simp [words])
    · exact row_ask G hg.hi
  have nt5 : Nt p H H5 := nt4.trans (Nt.of (Nxt.of_eq q5))
  have t5 : Tabs T H5 := Tabs.nxt (tabs_same tb s04) (dc.same s04) (Nxt.of_eq q5)
  have hv5 := Dn.keep (Nt.of (Nxt.of_eq q5) : Nt p H4 H5).keep _ _ hdn5
  have hna5 := sqT_keep nt5.keep hna
  have hS5 := sqT_keep nt5.keep hS
  have hx5 := DnAll.keep nt5.keep _ _ hx
  have ka := hide_sub.sqT hna5
  have kS := hide_sub.sqT hS5
  have hxl := hx.length
  rw [List.length_map] at hxl
  refine ⟨by simp, fun U1 H6 s6 n6 l6 => ?_⟩
  refine ⟨1, rfl, na, _, rfl, s6.sqT ka, fun U2 H7 s7 h7 => ?_⟩
  have s57 := s6.trans s7
  refine ⟨na, _, rfl, s57.sqT ka, fun U3 H8 b8 s8 n8 l8 => ?_⟩
  have s58 := s57.trans s8
  refine .inr ⟨_, .int n, s58.sqT ka, rfl, ?_⟩
  refine ⟨by simp, fun U4 H9 s9 n9 l9 => ?_⟩
  refine ⟨by simp, fun U5 Ha sa na' la => ?_⟩
  have s5a := (s58.trans s9).trans sa
  refine .inr ⟨_, .ref S, s5a.sqT ka, rfl, ?_⟩
  refine ⟨by simp, fun U6 Hb sb nb lb => ?_⟩
  have s5b := s5a.trans sb
  refine .inr ⟨_, .int n, s5b.sqT ka, rfl, ?_⟩
  refine .inr ⟨_, .ref S, s5b.sqT ka, rfl, ?_⟩
  refine .inr ⟨_, .ref S, s5b.sqT ka, rfl, ?_⟩
  refine .inr ⟨_, _, s5b.sqT kS, s5b.sqT kS, by omega, fun U7 Hc sc hU7 => ?_⟩
  refine ⟨by simp, fun U8 Hd sd nd' ld => ?_⟩
  have s5d := (s5b.trans sc).trans sd
  intro U9 nU9
  have se : Same Hd (upd Hd U9 (.dK [])) := (Same.refl _).new nU9
  have le : upd Hd U9 (.dK []) U9 = some (.dK []) := upd_same
  generalize upd Hd U9 (.dK []) = He at se le
  refine ⟨by simp, fun W9 Hf sf nf lf => ?_⟩
  have s5e := s5d.trans se
  have s5f := s5e.trans sf
  have dcf := dc5.same s5f
  have u1 : U1 ≠ p := dc5.ne n6
  have u3 : U3 ≠ p := (dc5.same s57).ne n8
  have u4 : U4 ≠ p := (dc5.same s58).ne n9
  have u5 : U5 ≠ p := (dc5.same (s58.trans s9)).ne na'
  have u6 : U6 ≠ p := (dc5.same s5a).ne nb
  have u8 : U8 ≠ p := (dc5.same (s5b.trans sc)).ne nd'
  have u9 : U9 ≠ p := (dc5.same s5d).ne nU9
  have uf : W9 ≠ p := (dc5.same s5e).ne nf
  have ntf : Nt p H5 Hf := Nt.same s5f
  have hxf := DnAll.keep ntf.keep _ _ hx5
  have hSf := sqT_keep ntf.keep hS5
  have h7f : SqT K (hide [p] Hf) U2 [.int n] := dc_sqT dcf ((((((((s8.trans s9).trans sa).trans sb).trans sc).trans sd).trans se).trans sf).sqT (by
    rw [show (1 : Int) = ((1 : Nat) : Int) from rfl, cutV_to] at h7
    exact h7))
  have hSd : Dn K (hide [p] Hf) (.ref S) (.tuple (rows.map rowD)) := .tup hSf hxf
  have q9f := (((sa.trans sb).trans sc).trans sd).trans (se.trans sf)
  have hU7f : SqT K (hide [p] Hf) U7 ((.ref ta :: xr) ++ (.ref ta :: xr)) := dc_sqT dcf ((sd.trans (se.trans sf)).sqT hU7)
  have wall : DnAll K (hide [p] Hf) [.non, .ref U1, .ref U2, .ref U3, .ref U5, .ref U6, .ref U8, .ref U9] (wrongs n (rows.map rowD)) :=
    .cons .non (.cons (.tup (SqT.of (hid_of u1 ((((s7.trans s8).trans s9).trans q9f) _ _ l6))) .nil) (.cons (.tup h7f (.cons (.int _) .nil)) (.cons (.lst (SqL.of (hid_of u3 ((s9.trans q9f) _ _ l8))) b8 (.cons (.int _) (.cons hSd .nil)))
      (.cons (.tup (SqT.of (hid_of u5 ((((sb.trans sc).trans sd).trans (se.trans sf)) _ _ la))) (.cons (.int _) (.cons (.tup (SqT.of (hid_of u4 (q9f _ _ l9))) .nil) .nil)))
      (.cons (.tup (SqT.of (hid_of u6 (((sc.trans sd).trans (se.trans sf)) _ _ lb))) (.cons (.int _) (.cons hSd .nil)))
      (.cons (.tup (SqT.of (hid_of u8 ((se.trans sf) _ _ ld))) (.cons (.int _) (.cons (.tup hU7f (hxf.append hxf)) .nil)))
      (.cons (.emp (hid_of u9 (sf _ _ le))) .nil)))))))
  refine ⟨p, W9, m + 1, _, rfl, dcf, lf, by omega, uf, by simp, by simp, fun i2 v6 Hg hi2 dcg qg => ?_⟩
  obtain ⟨d6, hd6, hdn6⟩ := wall.get hi2
  have w6 := wrong_no hg hr5 d6 (List.mem_of_getElem? hd6)
  have ntg : Nt p Hf Hg := Nt.of (Nxt.of_eq qg)
  have nt5g : Nt p H5 Hg := ntf.trans ntg
  have tg : Tabs T Hg := Tabs.nxt (tabs_same t5 s5f) dcf (Nxt.of_eq qg)
  exact sr_ask TA M LK hr O_names O_in O_out dcg tg hg hr5 (Dn.keep (nt5.trans nt5g).keep _ _ hv) (Dn.keep nt5g.keep _ _ hv5) a5 (Dn.keep ntg.keep _ _ hdn6) w6.no w6.sm fun H' a b c => q H' ((nt5.trans nt5g).trans a) b (c.mono (by omega))
end
end K01

set_option Elab.async false
set_option linter.all false
set_option maxRecDepth 100000
set_option maxHeartbeats 4000000
namespace K01
open PySem L2 PySem.KX StX LamX PyProof.Rows
theorem isStr_same (x : Str) : isStrD x (.str x) = true := by
  show (x == x) = true
  exact beq_self_eq_true x
theorem isStr_eq {x y : Str} (h : isStrD x (.str y) = true) : x = y := eq_of_beq h
section
variable {P : Program} {w : World} {K : PySem.W.Frag} {mg : Str → Option Value} {base : Heap} {c : MetC} {T : List (Addr × Str)}
theorem ok_steps_right {f : Addr} {fd : FuncData} {cv : Value} (TA : TxtA mg) (TX : TxtX mg) (M : MetK K mg c) (LK : LamK base mg cv T qSr)
    (F : ∃ (oc : Value) (od : Option Addr) (kV doc pm : Value) (an : Option Addr) (ct : Value) (osl : Array (Option Value)), fd = PySem.W.fnOf "_law_steps_right" "_law_steps_right" (defArgs s_law_steps_right) (defBody s_law_steps_right) (defScope s_law_steps_right) .none kV doc pm an cv ct ∧ K.lookup f = some ⟨oc, od, .func fd, osl⟩ ∧ PySem.W.codeIn K cv "_law_steps_right" = true)
    (O_one : Own P w K mg base CX0 "_law_one_of" 2 ["dice", "items"] spOneD) (O_names : Own P w K mg base (L2.CX P w) "step_names" 7 ["net"] (spNames K c.cI)) (O_in : Own P w K mg base (L2.CX P w) "inputs_of" 15 ["net", "name"] (spPart K c.cI c.cS fun b _ => b)) (O_out : Own P w K mg base (L2.CX P w) "outputs_of" 15 ["net", "name"] (spPart K c.cI c.cS fun _ b => b)) :
    FnG P w K mg base CX0 18 f fd ["dice", "net"] (spSteps K T) := by
  have nd := sc_law_steps_right.nd
  refine okGL F sc_law_steps_right (fun vs H Q E h => ?_) (fun A outer s H vs Q E hr h => ?_)
  · obtain ⟨_, _, _, _, _, rfl, _⟩ := h
    rfl
  · obtain ⟨p, v, m, n, rows, rfl, dc, hm, tb, hg, h5, hv, k⟩ := h
    have hrg : (A.deeper (envOfC "_law_steps_right" (defScope s_law_steps_right) s.heap.objs.size f cv)).guards = some [] := hr.g
    have hrep : mg "repr" = none := M.txt.repr
    refine ⟨_, (pss_cons (ps_if (pt_cmpA (op_neA hr.units64) (pe_callB (call_reprW hr.units64 hrg) (by rfl) hrep (by decide +kernel) (pa_cons (pe_ownX O_names hr pass0 (pa_cons (av 1) pa_nil) (by decide)) pa_nil)) (pe_callB (call_reprW hr.units64 hrg) (by rfl) hrep (by decide +kernel) (pa_cons (pe_callTy call_tupLS (by rfl) TA.tuple (by decide +kernel) (pa_cons (pe_lc (own := [("step", 9)]) (by rfl) nd (pi_tup (pe_ixA (av 1) pe_int)) (blkOk_by (N := N_sr) (sc := defScope s_law_steps_right) (by decide +kernel)) (fun _ _ _ _ _ => (pg_name (i := 9) nd rfl (Or.inl rfl))) (fun _ _ _ _ _ => pts_nil) (fun _ _ _ _ _ => (show PE _ _ (tOp (rIxA K) (aVar 9) (tC (.int 0))) from pe_ixA (av 9) pe_int))) pa_nil)) pa_nil))) (pss_one (ps_ret pe_bl)) pss_nil)
      (pss_cons (ps_for PassesOwn.never rfl (pi_tup (pe_ixA (av 1) pe_int)) (pg_tup rfl (pgs_cons (pg_name (i := 2) nd rfl (Or.inl rfl)) (pgs_cons (pg_name (i := 3) nd rfl (Or.inl rfl)) (pgs_cons (pg_name (i := 4) nd rfl (Or.inl rfl)) pgs_nil)))) (pss_one (ps_if (pt_cmpA (op_neA hr.units64) (pe_callB (call_reprW hr.units64 hrg) (by rfl) hrep (by decide +kernel) (pa_cons (pe_lstS (pa_cons (pe_ownX O_in hr pass0 (pa_cons (av 1) (pa_cons (av 2) pa_nil)) (by decide)) (pa_cons (pe_ownX O_out hr pass0 (pa_cons (av 1) (pa_cons (av 2) pa_nil)) (by decide)) pa_nil))) pa_nil)) (pe_callB (call_reprW hr.units64 hrg) (by rfl) hrep (by decide +kernel) (pa_cons (pe_lstS (pa_cons (av 3) (pa_cons (av 4) pa_nil))) pa_nil))) (pss_one (ps_ret pe_bl)) pss_nil)))
      pss_any)), ?_⟩
    obtain ⟨na, S, xs, rfl, hna, hS, hx⟩ := net_vs hv
    have hxl := hx.length
    rw [List.length_map] at hxl
    have sm := net_sm hg h5
    have ng := net_good hg
    have wd : ∀ {H' : Hp}, Nt p H H' → Wd K H' (.ref na) (netOf n rows) := fun nt => ⟨Dq.same hide_sub _ _ (Dn.dq _ _ (Dn.keep nt.keep _ _ hv)), sm⟩
    have es_is : ∀ {n' : Int} {es : List PyData}, netOf n rows = .tuple [.int n', .tuple es] → es = rows.map rowD := fun e => by
      have e3 : PyData.tuple [.int n, .tuple (rows.map rowD)] = .tuple [.int _, .tuple _] := e
      cases e3
      rfl
    have shn := names_shw hg h5
    have tq : ∀ {q : Addr} {H' : Hp}, H' q = some (.tup ((rows.map (·.1)).map V.str)) → Dq K H' (.ref q) (.tuple ((rows.map (·.1)).map PyData.str)) := fun h => .tup (SqT.of h) (dq_strs _)
    refine ⟨.ref na, netOf n rows, rfl, wd Nt.refl, fun _ n' es e r H1 s1 hr1 => ?_, fun z => absurd (z.symm.trans ng) (by decide)⟩
    rw [es_is e, names_eq] at hr1
    refine ⟨r, _, rfl, .inl ⟨shn.nd, hr1⟩, shn.sb, shn.dp, shn.sz, ?_⟩
    refine .inr ⟨_, .ref S, s1.sqT (hide_sub.sqT hna), rfl, ?_⟩
    have kS1 := s1.sqT (hide_sub.sqT hS)
    refine ⟨S, rfl, ⟨_, kS1⟩, fun D hD => ?_⟩
    refine lc_it (walk_tup (xs := xs)) (fun t H' => H' D = some (.lst (((rows.take t).map (·.1)).map V.str)) ∧ Same H1 H')
      ⟨upd_same, (Same.refl _).new hD⟩ (fun t H' _ ⟨_, s⟩ => s.sqT kS1) ?_ ?_
    · rintro t x H2 H3 ht ⟨hD2, s2⟩ ⟨rfl, hx2⟩
      obtain ⟨d, hd, hdn⟩ := hx.get hx2
      obtain ⟨r, hr1, rfl⟩ : ∃ r, rows[t]? = some r ∧ rowD r = d := by
        rw [List.getElem?_map] at hd
        cases e : rows[t]? with
        | none => rw [e] at hd; cases hd
        | some r => rw [e] at hd; exact ⟨r, rfl, Option.some.inj hd⟩
      obtain ⟨ta, ra, rb, rfl, h3, _, _⟩ := row_vs hdn
      refine ⟨rfl, ?_⟩
      refine .inr ⟨_, .str r.1, (s1.trans s2).sqT (hide_sub.sqT h3), rfl, ?_⟩
      refine ⟨_, hD2, by simp only [List.length_map, List.length_take, sizeLine_eq]; omega, ?_, fun b o e => ?_⟩
      · rw [upd_same, List.take_add_one, hr1]
        simp
      · rw [upd_ne (ne_of_none e hD)]
        exact s2 _ _ e
    · rintro H2 ⟨hD2, s2⟩
      rw [List.take_of_length_le (by omega)] at hD2
      refine ⟨D, _, rfl, SqL.of hD2, fun q3 H3 s3 n3 l3 => ?_⟩
      refine ⟨.ref q3, _, rfl, .inl ⟨shn.nd, tq l3⟩, shn.sb, shn.dp, shn.sz, ?_⟩
      refine ite2 (fun z => absurd z (by simp)) (fun _ => ?_)
      have s03 := (s1.trans s2).trans s3
      have nt3 : Nt p H H3 := Nt.same s03
      -- the rows
      refine .inr ⟨_, .ref S, s03.sqT (hide_sub.sqT hna), rfl, ?_⟩
      refine ⟨S, rfl, ⟨_, s03.sqT (hide_sub.sqT hS)⟩, ?_⟩
      refine for_it (walk_tup (xs := xs)) (fun _ σ H' => ∃ o2 o3 o4 o9, σ = [some (.ref p), some (.ref na), o2, o3, o4, none, none, none, none, o9] ∧ Same H H')
        ⟨_, _, _, _, rfl, s03⟩ (fun _ _ H' _ ⟨_, _, _, _, _, s⟩ => s.sqT (hide_sub.sqT hS)) ?_ ?_
      · rintro i x σ H4 H5 hi ⟨o2, o3, o4, o9, rfl, s4⟩ ⟨rfl, hxx⟩
        obtain ⟨d, hd, hdn⟩ := hx.get hxx
        obtain ⟨r, hr2, rfl⟩ : ∃ r, rows[i]? = some r ∧ rowD r = d := by
          rw [List.getElem?_map] at hd
          cases e : rows[i]? with
          | none => rw [e] at hd; cases hd
          | some r => rw [e] at hd; exact ⟨r, rfl, Option.some.inj hd⟩
        have hrm := List.mem_of_getElem? hr2
        have G := hg.row r hrm
        have shr := sides_shw G hg.hi
        obtain ⟨ta, ra, rb, rfl, h3, hra, hrb⟩ := row_vs hdn
        have sw : smQ (.str r.1) = true := by
          have e : r.1.length = r.1.cps.toList.length := by show r.1.cps.size = _; simp
          have := G.w.eight
          simp only [smQ, decide_eq_true_eq]
          omega
        have here : (rows.map rowD)[i]? = some (.tuple [.str r.1, tupI r.2.1, tupI r.2.2]) := by rw [List.getElem?_map, hr2]; rfl
        have only : ∀ {j : Nat} {x : Str} {b c : PyData}, (rows.map rowD)[j]? = some (.tuple [.str x, b, c]) → isStrD x (.str r.1) = true → b = tupI r.2.1 ∧ c = tupI r.2.2 := fun {j x b c} e hs => by
          rw [List.getElem?_map] at e
          cases e2 : rows[j]? with
          | none => rw [e2] at e; cases e
          | some r' =>
            rw [e2] at e
            have e3 : PyData.tuple [.str r'.1, tupI r'.2.1, tupI r'.2.2] = .tuple [.str x, b, c] := Option.some.inj e
            cases e3
            have := row_same hg (List.mem_of_getElem? e2) hrm (isStr_eq hs)
            rw [this]
            exact ⟨rfl, rfl⟩
        refine ⟨ta, _, rfl, s4.sqT (hide_sub.sqT h3), rfl, _, _, rfl, _, _, rfl, _, _, rfl, rfl, ?_⟩
        refine ⟨.ref na, .str r.1, netOf n rows, .str r.1, rfl, wd (Nt.same s4), ⟨.str _, sw⟩, by simp [PyData.depth], fun _ n' es e => ?_, fun z => absurd (z.symm.trans ng) (by decide)⟩
        have ee := es_is e
        subst ee
        refine ⟨fun j x b c r1 H6 he hs s6 hr6 => ?_, fun hnot => absurd ((hnot _ _ _ _ here).symm.trans (isStr_same r.1)) (by decide)⟩
        obtain ⟨rfl, rfl⟩ := only he hs
        refine ⟨.ref na, .str r.1, netOf n rows, .str r.1, rfl, wd (Nt.same (s4.trans s6)), ⟨.str _, sw⟩, by simp [PyData.depth], fun _ n2 es2 e2 => ?_, fun z => absurd (z.symm.trans ng) (by decide)⟩
        have ee := es_is e2
        subst ee
        refine ⟨fun j2 x2 b2 c2 r2 H7 he2 hs2 s7 hr7 => ?_, fun hnot => absurd ((hnot _ _ _ _ here).symm.trans (isStr_same r.1)) (by decide)⟩
        obtain ⟨rfl, rfl⟩ := only he2 hs2
        refine ⟨by simp, fun q8 H8 s8 n8 l8 => ?_⟩
        have s48 := (s6.trans s7).trans s8
        refine ⟨.ref q8, .list [tupI r.2.1, tupI r.2.2], rfl, .inl ⟨shr.nd, .lst (SqL.of l8) (.cons (Dq.same (s7.trans s8) _ _ hr6) (.cons (Dq.same s8 _ _ hr7) .nil))⟩, shr.sb, shr.dp, shr.sz, ?_⟩
        refine ⟨by simp, fun q9 H9 s9 n9 l9 => ?_⟩
        have s09 := (s4.trans s48).trans s9
        have di : ∀ {a : Addr} {l : List Int}, SqT K (hide [p] H) a (l.map V.int) → Dq K H9 (.ref a) (tupI l) := fun {a l} h => by
          have e : ∀ l : List Int, DqAll K H9 (l.map V.int) (l.map PyData.int) := fun l => by
            induction l with
            | nil => exact .nil
            | cons k r ih => exact .cons (.int k) ih
          exact .tup (s09.sqT (hide_sub.sqT h)) (e l)
        refine ⟨.ref q9, .list [tupI r.2.1, tupI r.2.2], rfl, .inl ⟨shr.nd, .lst (SqL.of l9) (.cons (di hra) (.cons (di hrb) .nil))⟩, shr.sb, shr.dp, shr.sz, ?_⟩
        refine ite2 (fun z => absurd z (by simp)) (fun _ => ?_)
        exact ⟨_, _, _, _, rfl, s09⟩
      · rintro σ H4 ⟨o2, o3, o4, o9, rfl, s4⟩
        have nt4 : Nt p H H4 := Nt.same s4
        exact sr_draw TA TX M LK hr O_one O_names O_in O_out (dc.same s4) (by omega) (tabs_same tb s4) hg h5 (Dn.keep nt4.keep _ _ hv) fun H' a b c => k H' (nt4.trans a) b (c.mono (by omega))
end
end K01

set_option Elab.async false
set_option linter.all false
set_option maxRecDepth 100000
set_option maxHeartbeats 1000000
namespace K01
open PySem L2 PySem.KX StX LamX PyProof.Rows
theorem net_md {n : Int} {rows : List RowN} (hg : GoodN n rows) (h5 : rows.length ≤ 5) : Md 0 7000 4 (netOf n rows) := by
  have F := net_few hg h5
  have hb : 30 ≤ bigN := by decide +kernel
  have hn := hg.hi
  have hlo := hg.lo
  have rw1 : ∀ d ∈ rows.map rowD, d.weight ≤ 1300 ∧ d.depth ≤ 2 := fun d hd => by
    obtain ⟨r, hr, rfl⟩ := List.mem_map.mp hd
    have G := hg.row r hr
    have el : r.1.length = r.1.cps.toList.length := by show r.1.cps.size = _; simp
    have h8 := G.w.eight
    have small : ∀ k : Int, 0 ≤ k ∧ k < n → k.natAbs < 10 ^ 31 := fun k hk => Nat.lt_of_lt_of_le (show k.natAbs < 31 by omega) (by decide +kernel)
    have w1 := weight_ints (B := 0) fun k hk => small k (G.i.inn k hk)
    have w2 := weight_ints (B := 0) fun k hk => small k (G.o.inn k hk)
    have l1 := G.i.few
    have l2 := G.o.few
    have m := (good_rowL G).md hg.hi
    refine ⟨?_, m.dp⟩
    have e1 : PyData.weight (.str r.1) = r.1.length := rfl
    have e2 : PyData.weight (tupI r.2.1) = PyData.weightAll (r.2.1.map .int) := by simp only [PyData.weight]
    have e3 : PyData.weight (tupI r.2.2) = PyData.weightAll (r.2.2.map .int) := by simp only [PyData.weight]
    have e4 : PyData.weight (rowD r) = PyData.weightAll [.str r.1, tupI r.2.1, tupI r.2.2] := by unfold rowD; simp only [PyData.weight]
    rw [e4]
    simp only [PyData.weightAll, e1, e2, e3]
    omega
  have w3 := weight_rows (W := 1300) fun d hd => (rw1 d hd).1
  have l3 := F.few
  have mt : Md 0 (1301 * 5) 3 (.tuple (rows.map rowD)) := by
    refine Md.tup (by rw [List.length_map]; omega) F.ok ?_ (fun d hd => by have := (rw1 d hd).2; omega) (by omega)
    rw [List.length_map] at w3
    have := Nat.mul_le_mul_left (1300 + 1) h5
    omega
  show Md 0 7000 4 (.tuple [.int n, .tuple (rows.map rowD)])
  refine Md.tup (by simp) (fun d hd => ?_) ?_ (fun d hd => ?_) (by omega)
  · simp only [List.mem_cons, List.not_mem_nil, or_false] at hd
    rcases hd with rfl | rfl
    · simp only [okB, decide_eq_true_eq]
      exact Nat.le_trans (show n.natAbs ≤ 1 * bigN by omega) (Nat.mul_le_mul_right _ (by omega))
    · exact mt.ok
  · have w := mt.wt
    have wi := weight_int (i := n) (Nat.lt_of_lt_of_le (show n.natAbs < 31 by omega) (by decide +kernel))
    simp only [PyData.weightAll]
    omega
  · simp only [List.mem_cons, List.not_mem_nil, or_false] at hd
    rcases hd with rfl | rfl
    · simp [PyData.depth]
    · have := mt.dp; omega
theorem keptQ_extN {H H' : Hp} (e : ExtN H H') : KeptQ H H' := fun b => ⟨(fun xs h => e _ _ h fun ps z => (nomatch z)), (fun xs h => e _ _ h fun ps z => (nomatch z)), (fun o u h => e _ _ h fun ps z => (nomatch z)), (fun h => e _ _ h fun ps z => (nomatch z))⟩
theorem tabs_hide {T : List (Addr × Str)} {H : Hp} {R : Addr} {xs : List V} (t : Tabs T H) (h : H R = some (.lst xs)) : Tabs T (hide [R] H) := fun q hq => by
  obtain ⟨ps, h1, h2, h3⟩ := t q hq
  have ne : q.1 ≠ R := fun z => by rw [z, h] at h1; cases h1
  refine ⟨ps, by rw [hide1_ne ne]; exact h1, h2, fun pos cv hc => ?_⟩
  obtain ⟨c, e1, e2⟩ := h3 pos cv hc
  have ne2 : c ≠ R := fun z => by rw [z, h] at e2; cases e2
  exact ⟨c, e1, by rw [hide1_ne ne2]; exact e2⟩
theorem dc_hide {p R : Addr} {m : Int} {H : Hp} (d : Dc p m H) (ne : R ≠ p) : Dc p m (hide [R] H) := by
  obtain ⟨g, s, n, h, r⟩ := d
  exact ⟨g, s, n, by rw [hide1_ne (Ne.symm ne)]; exact h, r⟩
/-- the word of a bool -/
theorem bool_shw (b : Bool) : Shw (.bool b) := by
  refine ⟨rfl, by simp [PyData.showable], by simp [PyData.depth], ?_⟩
  rw [sizeLine_eq]
  cases b
  · exact Nat.le_trans (show (PyData.bool false).shown.length ≤ 10 by decide +kernel) (by decide)
  · exact Nat.le_trans (show (PyData.bool true).shown.length ≤ 10 by decide +kernel) (by decide)
abbrev slaw : Stmt := top 47
abbrev N_law : List Str := ["script", "at", "dice", "net", "things", "thing", "held", "turn"]
theorem sclaw : FnScope N_law ["script"] (defScope slaw) := ⟨rfl, rfl, rfl, by decide +kernel, rfl, by decide +kernel, by decide +kernel⟩
def spLimits (T : List (Addr × Str)) : Sp := fun vs H Q _ => vs = [] ∧ Tabs T H ∧ ∀ H', Q (.bl true) H'
def spLawT (K : PySem.W.Frag) (T : List (Addr × Str)) : Sp := fun vs H Q _ => ∃ (a : Addr) (ns : List Int), vs = [.ref a] ∧ SqL K H a (ns.map V.int) ∧ ns.length ≤ 63 ∧ Tabs T H ∧ ∀ H', Q (.bl true) H'
structure TxtM2 (mg : Str → Option Value) : Prop where
  max : mg "max" = none
  min : mg "min" = none
section
variable {P : Program} {w : World} {K : PySem.W.Frag} {mg : Str → Option Value} {base : Heap} {T : List (Addr × Str)}
theorem ok_law {f : Addr} {fd : FuncData} (F : Fun K "law" "law" slaw f fd) (TA : TxtA mg) (TX : TxtX mg) (TM : TxtM2 mg) (hrep : mg "repr" = none)
    (O_dice : Own P w K mg base CX0 "_law_dice" 1 ["script", "at"] (spDice K)) (O_roll : Own P w K mg base CX0 "_law_roll" 1 ["dice", "total"] spRollD) (O_any : Own P w K mg base CX0 "_law_any_net" 4 ["dice", "total"] (spAny K)) (O_makes : Own P w K mg base CX0 "_law_makes_right" 18 ["dice", "net"] (spMakes K T)) (O_steps : Own P w K mg base CX0 "_law_steps_right" 18 ["dice", "net"] (spSteps K T))
    (O_bent : Own P w K mg base CX0 "_law_bent" 7 ["dice", "thing", "deep"] (spBent K 4)) (O_is : Own P w K mg base CX0 "is_net" 5 ["value"] (spN K netD)) (O_lis : Own P w K mg base CX0 "_law_is_net" 4 ["thing"] (spIsNet K)) (O_lim : Own P w K mg base CX0 "_law_limits_right" 18 [] (spLimits T)) :
    FnG P w K mg base CX0 19 f fd ["script"] (spLawT K T) := by
  have nd := sclaw.nd
  refine okG F sclaw (fun vs H Q E h => ?_) (fun cdv A outer s H vs Q E hr h => ?_)
  · obtain ⟨_, _, rfl, _⟩ := h
    rfl
  · obtain ⟨a, ns, rfl, hS, hlen, tb, hQ⟩ := h
    have hrg : (A.deeper (envOfC "law" (defScope slaw) s.heap.objs.size f cdv)).guards = some [] := hr.g
    refine ⟨_, (pss_cons (ps_for PassesOwn.never rfl (pi_range1 (by rfl) TX.range (pa_cons (pe_callB (call_maxA rfl) (by rfl) TM.max (by decide +kernel) (pa_cons pe_int (pa_cons (pe_callB (call_minA rfl) (by rfl) TM.min (by decide +kernel) (pa_cons pe_int (pa_cons (pe_callB call_lenA (by rfl) TA.len PySem.boot_len (pa_cons (av 0) pa_nil)) pa_nil))) pa_nil))) pa_nil)) (pg_name (i := 1) nd rfl (Or.inl rfl)) (pss_cons (ps_set (i := 2) nd rfl (by first | exact Or.inl rfl | exact Or.inr rfl) (pe_own O_dice hr (pa_cons (av 0) (pa_cons (av 1) pa_nil)) (by decide)))
      (pss_cons (ps_set (i := 3) nd rfl (by first | exact Or.inl rfl | exact Or.inr rfl) (pe_own O_any hr (pa_cons (av 2) (pa_cons (pe_op op_addS pe_int (pe_own O_roll hr (pa_cons (av 2) (pa_cons pe_int pa_nil)) (by decide))) pa_nil)) (by decide)))
      (pss_cons (ps_if (PW.pt (pw_or (pt_not (pt_valA (pe_own O_makes hr (pa_cons (av 2) (pa_cons (av 3) pa_nil)) (by decide)))) (pw_or1 (pt_not (pt_valA (pe_own O_steps hr (pa_cons (av 2) (pa_cons (av 3) pa_nil)) (by decide))))))) (pss_one (ps_ret pe_bl)) pss_nil)
      (pss_cons (ps_set (i := 4) nd rfl (Or.inl rfl) (pe_op op_addS (pe_lstS (pa_cons (av 3) pa_nil)) (pe_lc (own := [("turn", 7)]) (by rfl) nd (pi_range1 (by rfl) TX.range (pa_cons pe_int pa_nil)) (blkOk_by (N := N_law) (sc := defScope slaw) (by decide +kernel)) (fun _ _ _ _ _ => (pg_name (i := 7) nd rfl (Or.inl rfl))) (fun _ _ _ _ _ => pts_nil) (fun _ _ _ _ _ => (show PE _ _ (tAs (spBent K 4) (tCons (aVar 2) (tCons (aVar 3) (tCons (tC (.int 4)) tNil))) E0) from pe_ownAs O_bent hr (pa_cons (av 2) (pa_cons (av 3) (pa_cons pe_int pa_nil))) (by decide))))))
      (pss_cons (ps_expr (pe_appS (av 4) (pe_ownAs O_bent hr (pa_cons (av 2) (pa_cons (pe_ixA (av 4) pe_int) (pa_cons pe_int pa_nil))) (by decide))))
      (pss_one (ps_for PassesOwn.never rfl (pi_list (av 4)) (pg_name (i := 5) nd rfl (Or.inl rfl)) (pss_cons (ps_set (i := 6) nd rfl (Or.inl rfl) (pe_callB (call_reprW hr.units64 hrg) (by rfl) hrep (by decide +kernel) (pa_cons (av 5) pa_nil)))
      (pss_one (ps_if (PW.pt (pw_or (pt_cmpA (op_neA hr.units64) (pe_callB (call_reprW hr.units64 hrg) (by rfl) hrep (by decide +kernel) (pa_cons (pe_own O_is hr (pa_cons (av 5) pa_nil) (by decide)) pa_nil)) (pe_callB (call_reprW hr.units64 hrg) (by rfl) hrep (by decide +kernel) (pa_cons (pe_own O_lis hr (pa_cons (av 5) pa_nil) (by decide)) pa_nil))) (pw_or1 (pt_cmpA (op_neA hr.units64) (pe_callB (call_reprW hr.units64 hrg) (by rfl) hrep (by decide +kernel) (pa_cons (av 5) pa_nil)) (av 6))))) (pss_one (ps_ret pe_bl)) pss_nil)))))))))))
      (pss_one (ps_ret (pe_own0 O_lim hr (by decide))))), ?_⟩
    refine .inl ⟨_, hS, ?_⟩
    refine ⟨_, rfl, ?_, ?_, for_range (fun i σ H' => ∃ o1 o2 o3 o4 o5 o6 o7 : Option V, σ = [some (.ref a), o1, o2, o3, o4, o5, o6, o7] ∧ ExtN H H' ∧ Tabs T H') ⟨_, _, _, _, _, _, _, rfl, ExtN.refl H, tb⟩ ?_ ?_⟩
    · split <;> split <;> omega
    · split <;> split <;> omega
    · rintro i σ H1 hi ⟨o1, o2, o3, o4, o5, o6, o7, rfl, eN, t1⟩
      have hi6 : i < 6 := by
        revert hi
        split <;> split <;> omega
      have hS1 : SqL K H1 a (ns.map V.int) := sqL_keep (keptQ_extN eN) hS
      refine ⟨a, ns, i, by simp, hS1, hlen, by omega, fun H2 p g sd s2 n2 l2 g0 s0 s61 => ?_⟩
      have dc2 : Dc p 0 H2 := ⟨g, sd, 0, l2, g0, s0, s61, by omega, by omega⟩
      have t2 := tabs_same t1 s2
      -- the net
      refine ⟨p, 0, 5, rfl, dc2, by decide, by decide, by decide, fun r H3 r0 r1 dc3 e3 => ?_⟩
      obtain ⟨j, rfl⟩ : ∃ j : Nat, r = (j : Int) := ⟨r.toNat, by omega⟩
      have nx3 : Nxt p H2 H3 := Nxt.of_eq e3
      have t3 := Tabs.nxt t2 dc2 nx3
      refine ⟨p, 0 + 1, 1 + j, by rw [show (1 + (j : Int)) = ((1 + j : Nat) : Int) by omega]; rfl, dc3, by omega, by omega, by omega, fun n rows v H4 hg hl4 nx4 dc4 hq4 => ?_⟩
      have hn4 := plain_dn _ _ (plain_net n rows) hq4
      have t4 := Tabs.nxt t3 dc3 nx4
      have h5 : rows.length ≤ 5 := by omega
      -- the two questions
      refine ⟨p, v, _, n, rows, rfl, dc4, by omega, t4, hg, h5, hn4, fun H5 nt5 t5 dc5 => ?_⟩
      refine iteF ?_
      have hn5 := Dn.keep nt5.keep _ _ hn4
      refine ⟨p, v, _, n, rows, rfl, dc5, by omega, t5, hg, h5, hn5, fun H6 nt6 t6 dc6 => ?_⟩
      refine iteF ?_
      have hn6 := Dn.keep nt6.keep _ _ hn5
      have md := net_md hg h5
      have dc6' : Dc p 3001 H6 := dc6.mono (by omega)
      -- the things
      refine ⟨by simp, fun L H7 s7 n7 l7 => ?_⟩
      have hLp : L ≠ p := dc6'.ne n7
      have dc7 := dc6'.same s7
      have t7 := tabs_same t6 s7
      have hn7 := Dn.keep (Nt.same s7 : Nt p H6 H7).keep _ _ hn6
      refine ⟨12, rfl, by decide, by decide, fun D hD => ?_⟩
      have hDp : D ≠ p := dc7.ne hD
      refine lc_range (lo := 0) (n := (12 : Int).toNat) (fun t H' => ∃ (ac : List V) (ds : List PyData), H' D = some (.lst ac) ∧ ac.length = t ∧ DnAll K (hide [D, p] H') ac ds ∧ (∀ d ∈ ds, Md 1 15000 5 d) ∧ (∀ b o, b ≠ p → H7 b = some o → H' b = some o) ∧ Dc p (3001 + 20 * t) H' ∧ Tabs T H')
        ⟨[], [], upd_same, rfl, .nil, (fun d hd => absurd hd List.not_mem_nil), (fun b o _ e => by rw [upd_ne (ne_of_none e hD)]; exact e), (dc7.upd hDp).mono (by omega), tabs_same t7 ((Same.refl _).new hD)⟩ ?_ ?_
      · rintro t H8 htt ⟨ac, ds, hD8, hal, hds, hmd, kp, dc8, t8⟩
        have ht : t < 12 := htt
        have ntH : Nt p H7 (hide [D] H8) := fun b o hb e _ => by
          rw [hide1_ne (ne_of_none e hD)]
          exact kp b o hb e
        refine ⟨rfl, ?_⟩
        refine ⟨D, ac, hD8, p, v, netOf n rows, _, 0, 7000, 4, rfl, dc_hide dc8 hDp, by omega, Dn.keep ntH.keep _ _ hn7, md, by decide, by decide, fun v' d' H9 nx9 dc9 hd9 md9 nD9 => ?_⟩
        have keep9 : ∀ b o, b ≠ p → b ≠ D → H8 b = some o → H9 b = some o := fun b o h1 h2 e => nx9.get h1 (by rw [hide1_ne h2]; exact e)
        refine ⟨ac, upd_same, by rw [sizeLine_eq]; omega, ac ++ [v'], ds ++ [d'], by rw [upd_same], by simp [hal], ?_, ?_, ?_, ?_, ?_⟩
        · rw [upd_upd]
          refine (DnAll.same (hide2 fun b o h1 h2 e => ?_) _ _ hds).append (.cons (Dn.same (fun b o e => ?_) _ _ hd9) .nil)
          · rw [upd_ne h2]
            exact keep9 b o h1 h2 e
          · obtain ⟨e1, e2⟩ := hide_of e
            have hb : b ≠ D := ne_of_none e1 nD9
            exact hid2 (fun z => e2 (by rw [z]; simp)) hb (by rw [upd_ne hb]; exact e1)
        · intro d hd
          rcases List.mem_append.mp hd with z | z
          · exact hmd d z
          · rw [List.mem_singleton.mp z]
            exact md9
        · intro b o hb e
          have hbD := ne_of_none e hD
          rw [upd_upd, upd_ne hbD]
          exact keep9 b o hb hbD (kp b o hb e)
        · rw [upd_upd]
          exact (dc9.upd hDp).mono (by omega)
        · rw [upd_upd]
          exact tabs_same (Tabs.nxt (tabs_hide t8 hD8) (dc_hide dc8 hDp) nx9) ((Same.refl _).new nD9)
      · rintro H8 ⟨ac, ds, hD8, hal, hds, hmd, kp, dc8, t8⟩
        have hal2 : ac.length = 12 := hal
        have dc8' : Dc p 3300 H8 := dc8.mono (by simp)
        have hL8 := kp L _ hLp l7
        refine .inl ⟨_, _, hL8, hD8, by simp; omega, fun R H9 s9 n9 l9 => ?_⟩
        have hRp : R ≠ p := dc8'.ne n9
        have dc9 := dc8'.same s9
        have hn8 : Dn K (hide [p] H8) v (netOf n rows) := Dn.keep (fun b => by
          have g : ∀ o, hide [p] H7 b = some o → hide [p] H8 b = some o := fun o h => by
            obtain ⟨e1, e2⟩ := hide_of h
            have hb : b ≠ p := fun z => e2 (by rw [z]; simp)
            exact hid_of hb (kp b o hb e1)
          exact ⟨fun xs h => g _ h, fun xs h => g _ h, fun o u h => g _ h, fun h => g _ h⟩) _ _ hn7
        have toR : ∀ {b : Addr} {o : HO}, b ≠ p → H8 b = some o → hide [R, p] H9 b = some o := fun hb e => hid2 hb (ne_of_none e n9) (s9 _ _ e)
        have all9 : DnAll K (hide [R, p] H9) ([v] ++ ac) (netOf n rows :: ds) :=
          .cons (Dn.same (fun b o e => toR (fun z => (hide_of e).2 (by rw [z]; simp)) (hide_of e).1) _ _ hn8) (DnAll.same (fun b o e => toR (fun z => (hide_of e).2 (by rw [z]; simp)) (hide_of e).1) _ _ hds)
        have md9 : ∀ d ∈ netOf n rows :: ds, Md 1 15000 5 d := fun d hd => by
          rcases List.mem_cons.mp hd with rfl | z
          · exact md.up.mono (by decide) (by decide)
          · exact hmd d z
        obtain ⟨x1, hx1⟩ : ∃ x, ([v] ++ ac)[1]? = some x := ⟨_, List.getElem?_eq_getElem (by simp; omega)⟩
        obtain ⟨d1, hd1, hdn1⟩ := all9.get hx1
        have tR : Same (hide [R, p] H9) (hide [p] (hide [R] H9)) := fun b o e => by
          obtain ⟨e1, e2⟩ := hide_of e
          exact hid_of (fun z => e2 (by rw [z]; simp)) (by rw [hide1_ne (fun z => e2 (by rw [z]; simp))]; exact e1)
        refine ⟨R, _, rfl, l9, ?_⟩
        refine .inl ⟨_, x1, SqL.of l9, (show atI ([v] ++ ac) ((1 : Nat) : Int) = _ from atI_nat hx1), ?_⟩
        refine ⟨R, _, l9, p, x1, d1, 3300, 1, 15000, 5, rfl, dc_hide dc9 hRp, by omega, Dn.same tR _ _ hdn1, md9 d1 (List.mem_of_getElem? hd1), by decide, by decide, fun v' d' Ha nxa dca hda mda nRa => ?_⟩
        refine ⟨_, upd_same, by simp; omega, ?_⟩
        rw [upd_upd]
        have keepa : ∀ b o, b ≠ p → b ≠ R → H9 b = some o → Ha b = some o := fun b o h1 h2 e => nxa.get h1 (by rw [hide1_ne h2]; exact e)
        have lb : upd Ha R (.lst ([v] ++ ac ++ [v'])) R = some (.lst ([v] ++ ac ++ [v'])) := upd_same
        have allb : DnAll K (hide [R, p] (upd Ha R (.lst ([v] ++ ac ++ [v'])))) ([v] ++ ac ++ [v']) ((netOf n rows :: ds) ++ [d']) := by
          refine (DnAll.same (hide2 fun b o h1 h2 e => ?_) _ _ all9).append (.cons (Dn.same (fun b o e => ?_) _ _ hda) .nil)
          · rw [upd_ne h2]
            exact keepa b o h1 h2 e
          · obtain ⟨e1, e2⟩ := hide_of e
            have hb : b ≠ R := ne_of_none e1 nRa
            exact hid2 (fun z => e2 (by rw [z]; simp)) hb (by rw [upd_ne hb]; exact e1)
        have tB : Tabs T (upd Ha R (.lst ([v] ++ ac ++ [v']))) := tabs_same (Tabs.nxt (tabs_hide (tabs_same t8 s9) l9) (dc_hide dc9 hRp) nxa) ((Same.refl _).new nRa)
        have mdb : ∀ d ∈ (netOf n rows :: ds) ++ [d'], Md 2 31000 6 d := fun d hd => by
          rcases List.mem_append.mp hd with z | z
          · exact (md9 d z).up.mono (by decide) (by decide)
          · rw [List.mem_singleton.mp z]
            exact mda
        have eNb : ExtN H1 (upd Ha R (.lst ([v] ++ ac ++ [v']))) := fun b o e nt => by
          have hbp : b ≠ p := ne_of_none e n2
          have h2' := s2 _ _ e
          have h7' : H7 b = some o := s7 _ _ (nt6 b o hbp (nt5 b o hbp (nx4.get hbp (nx3.get hbp h2')) nt) nt)
          have h8' := kp b o hbp h7'
          have hbR : b ≠ R := ne_of_none h8' n9
          rw [upd_ne hbR]
          exact keepa b o hbp hbR (s9 _ _ h8')
        generalize upd Ha R (.lst ([v] ++ ac ++ [v'])) = Hb at lb allb tB eNb
        refine ⟨R, rfl, ⟨_, SqL.of lb⟩, ?_⟩
        refine for_list (K := K) (a := R) (xs := [v] ++ ac ++ [v']) (fun _ σ H' => ∃ o5 o6 : Option V, σ = [some (.ref a), some (.int (0 + (i : Nat))), some (.ref p), some v, some (.ref R), o5, o6, o7] ∧ Same Hb H') ⟨_, _, rfl, Same.refl _⟩ (fun _ _ H' _ ⟨_, _, _, s⟩ => SqL.of (s _ _ lb)) ?_ ?_
        · rintro k x σ Hc hxk ⟨o5, o6, rfl, sc⟩
          obtain ⟨d, hd, hdn⟩ := allb.get hxk
          have m := mdb d (List.mem_of_getElem? hd)
          have ob := okB_sm (k := 2) (by decide) d m.ok
          have dn : ∀ {H' : Hp}, Same Hb H' → Dn K H' x d := fun s => Dn.same s _ _ (Dn.same hide_sub _ _ hdn)
          have dp : d.depth ≤ 60 := by have := m.dp; omega
          have sz := m.shown (by decide) (by decide)
          have shb := bool_shw (netD d)
          refine ⟨x, d, rfl, .inr (dn sc), ob.2.2.1, dp, sz, ?_⟩
          refine ⟨x, d, rfl, ⟨Dn.dq _ _ (dn sc), ob.1⟩, fun Hd sd => ?_⟩
          refine ⟨.bl (netD d), .bool (netD d), rfl, .inl ⟨shb.nd, .bl _⟩, shb.sb, shb.dp, shb.sz, ?_⟩
          refine ⟨x, d, rfl, ⟨Dn.dq _ _ (dn (sc.trans sd)), ob.1⟩, ob.2.1, fun He se => ?_⟩
          refine ⟨.bl (netD d), .bool (netD d), rfl, .inl ⟨shb.nd, .bl _⟩, shb.sb, shb.dp, shb.sz, ?_⟩
          refine ite2 (fun z => absurd z (by simp)) (fun _ => ?_)
          refine ⟨x, d, rfl, .inr (dn ((sc.trans sd).trans se)), ob.2.2.1, dp, sz, ?_⟩
          refine ite2 (fun z => absurd z (by simp)) (fun _ => ?_)
          exact ⟨_, _, rfl, (sc.trans sd).trans se⟩
        · rintro σ Hc ⟨o5, o6, rfl, sc⟩
          exact ⟨_, _, _, _, _, _, _, rfl, eN.trans (eNb.trans (ExtN.of sc)), tabs_same tB sc⟩
    · rintro σ H1 ⟨o1, o2, o3, o4, o5, o6, o7, rfl, eN, t1⟩
      exact ⟨rfl, t1, fun H' => hQ H'⟩
end
end K01

set_option Elab.async false
set_option linter.all false
set_option maxRecDepth 100000
set_option maxHeartbeats 1000000
/-! the written nets. -/
namespace K01
open PySem L2 PySem.KX StX LamX PyProof.Rows
/-- the name of the step at a place of the forty -/
def fName (i : Nat) : Str := wT [97 + i / 26, 97 + i % 26]
def fRow (i : Nat) : RowN := (fName i, [((i % 29 : Nat) : Int)], [29 - ((i % 29 : Nat) : Int)])
def forty : List RowN := (List.range 40).map fRow
def zzRow : RowN := (wT [122, 122], [0], [1])
theorem forty_net : netD (netOf 30 forty) = true := by decide +kernel
theorem forty_29 : netD (netOf 29 forty) = false := by decide +kernel
theorem forty_31 : netD (netOf 31 forty) = false := by decide +kernel
theorem forty_zz : netD (netOf 30 (forty ++ [zzRow])) = false := by decide +kernel
theorem forty_39 : netD (netOf 30 (forty.take 39)) = true := by decide +kernel
theorem eight_net : netD (netOf 2 [(wT [97, 98, 99, 100, 101, 102, 103, 104], [0, 1], [0, 1])]) = true := by decide +kernel
theorem nine_net : netD (netOf 2 [(wT [97, 98, 99, 100, 101, 102, 103, 104, 105], [0], [1])]) = false := by decide +kernel
theorem down_net : netD (netOf 2 [(wT [97], [1, 0], [1])]) = false := by decide +kernel
theorem forty_good : GoodN 30 forty := by
  have hr : ∀ i < 40, GoodR 30 (fRow i) := fun i hi => by
    have h29 : i % 29 < 29 := Nat.mod_lt _ (by decide)
    refine ⟨⟨(show 1 ≤ ([97 + i / 26, 97 + i % 26] : List Nat).length from by simp), (show ([97 + i / 26, 97 + i % 26] : List Nat).length ≤ 8 from by simp), ?_⟩, ⟨by simp [fRow], by simp [fRow], fun k hk => ?_, by simp [fRow]⟩, ⟨by simp [fRow], by simp [fRow], fun k hk => ?_, by simp [fRow]⟩⟩
    · show ([97 + i / 26, 97 + i % 26] : List Nat).all lowL = true
      have h1 : i / 26 ≤ 1 := by omega
      have h2 : i % 26 < 26 := Nat.mod_lt _ (by decide)
      refine List.all_eq_true.mpr fun c hc => lowL_iff.mpr ?_
      simp only [List.mem_cons, List.not_mem_nil, or_false] at hc
      rcases hc with rfl | rfl <;> omega
    · have : k = ((i % 29 : Nat) : Int) := by simpa [fRow] using hk
      omega
    · have : k = 29 - ((i % 29 : Nat) : Int) := by simpa [fRow] using hk
      omega
  refine ⟨by decide, by decide, by decide +kernel, by decide +kernel, fun r h => ?_, ?_⟩
  · obtain ⟨i, hi, rfl⟩ := List.mem_map.mp h
    exact hr i (List.mem_range.mp hi)
  · have h := (asc_strs (forty.map (·.1))).mp (by decide +kernel)
    exact (List.pairwise_map (f := fun r : RowN => r.1) (R := ltT)).mp h
end K01

set_option Elab.async false
set_option linter.all false
set_option maxRecDepth 100000
set_option maxHeartbeats 1000000
namespace K01
open PySem L2 PySem.KX StX LamX PyProof.Rows
abbrev s_law_limits_right : Stmt := top 46
abbrev N_lr : List Str := ["letters", "forty", "told", "odd", "f", "made", "extra", "many", "at", "step"]
theorem sc_law_limits_right : FnScope N_lr [] (defScope s_law_limits_right) := ⟨rfl, rfl, rfl, by decide +kernel, rfl, by decide +kernel, by decide +kernel⟩
abbrev X_lr (P : Program) (w : World) (K : PySem.W.Frag) (mg : Str → Option Value) (base : Heap) (f : Addr) (cdv : Value) (A : Around) (outer : List Env) (s : Shared) (H : Hp) (E : XK) : Cx := (cxOf CX0 P w K mg base N_lr "_law_limits_right" (defScope s_law_limits_right) f cdv A outer s H E).nox
/-- rows as tuples of the heap -/
def TupR (K : PySem.W.Frag) (H : Hp) (a : Addr) (rows : List RowN) : Prop := ∃ xs, SqT K H a xs ∧ DqAll K H xs (rows.map rowD)
theorem TupR.same {K : PySem.W.Frag} {H H' : Hp} {a : Addr} {rows : List RowN} (s : Same H H') (h : TupR K H a rows) : TupR K H' a rows := by
  obtain ⟨xs, h1, h2⟩ := h
  exact ⟨xs, s.sqT h1, DqAll.same s _ _ h2⟩
section
variable {P : Program} {w : World} {K : PySem.W.Frag} {mg : Str → Option Value} {base : Heap} {f : Addr} {cdv : Value} {A : Around} {outer : List Env} {s : Shared} {H0 : Hp} {E0' : XK} {c : MetC} {T : List (Addr × Str)}
/-- forty -/
theorem lr_forty (TA : TxtA mg) (TX : TxtX mg) {H : Hp} {D : Ends} {o1 o2 o3 o4 o5 o6 o7 o8 o9 : Option V} (q : ∀ (g : Addr) (H' : Hp), Same H H' → TupR K H' g forty → ∃ t, PSs (X_lr P w K mg base f cdv A outer s H0 E0') ((defBody s_law_limits_right).drop 2) t ∧ t D [some (.str abc), some (.ref g), none, none, none, none, none, none, none, none] H') :
    ∃ t, PSs (X_lr P w K mg base f cdv A outer s H0 E0') (defBody s_law_limits_right) t ∧ t D (start N_lr []) H := by
  have nd := sc_law_limits_right.nd
  refine ⟨_, (pss_cons (ps_set (i := 0) nd rfl (by first | exact Or.inl rfl | exact Or.inr rfl) pe_str)
      (pss_cons (ps_set (i := 1) nd rfl (by first | exact Or.inl rfl | exact Or.inr rfl) (pe_callTy call_tupLS (by rfl) TA.tuple (by decide +kernel) (pa_cons (pe_lc (own := [("at", 8)]) (by rfl) nd (pi_range1 (by rfl) TX.range (pa_cons pe_int pa_nil)) (blkOk_by (N := N_lr) (sc := defScope s_law_limits_right) (by decide +kernel)) (fun _ _ _ _ _ => (pg_name (i := 8) nd rfl (Or.inl rfl))) (fun _ _ _ _ _ => pts_nil)
        (fun _ _ _ _ _ => (show PE _ _ (tTupS (tCons (tOp (rAddS K) (tOp (rIxA K) (aVar 0) (tOp rFdvA (aVar 8) (tC (.int 26)))) (tOp (rIxA K) (aVar 0) (tOp rModA (aVar 8) (tC (.int 26))))) (tCons (tTupS (tCons (tOp rModA (aVar 8) (tC (.int 29))) tNil)) (tCons (tTupS (tCons (tOp rSubA (tC (.int 29)) (tOp rModA (aVar 8) (tC (.int 29)))) tNil)) tNil)))) from
          pe_tupS (pa_cons (pe_op op_addS (pe_ixA (av 0) (pe_op op_fdvA (av 8) pe_int)) (pe_ixA (av 0) (pe_op op_modA (av 8) pe_int))) (pa_cons (pe_tupS (pa_cons (pe_op op_modA (av 8) pe_int) pa_nil)) (pa_cons (pe_tupS (pa_cons (pe_op op_subA pe_int (pe_op op_modA (av 8) pe_int)) pa_nil)) pa_nil)))))) pa_nil)))
      pss_any)), ?_⟩
  refine ⟨40, rfl, by decide, by decide, fun D' hD => ?_⟩
  refine lc_range (lo := 0) (n := (40 : Int).toNat) (fun t H' => ∃ ac : List V, H' D' = some (.lst ac) ∧ ac.length = t ∧ DqAll K (hide [D'] H') ac (((List.range t).map fRow).map rowD) ∧ ∀ b o, H b = some o → H' b = some o)
    ⟨[], upd_same, rfl, .nil, fun b o e => by rw [upd_ne (ne_of_none e hD)]; exact e⟩ ?_ ?_
  · rintro t H2 htt ⟨ac, hD2, hal, hac, kp⟩
    have ht : t < 40 := htt
    refine ⟨rfl, ?_⟩
    have i1 : (0 + (t : Int)) / 26 = ((t / 26 : Nat) : Int) := by omega
    have i2 : (0 + (t : Int)) % 26 = ((t % 26 : Nat) : Int) := by omega
    have i3 : (0 + (t : Int)) % 29 = ((t % 29 : Nat) : Int) := by omega
    have b1 : t / 26 < 26 := by omega
    have b2 : t % 26 < 26 := Nat.mod_lt _ (by decide)
    refine ⟨?_, 97 + t / 26, by decide +kernel, by rw [i1]; exact abc_get b1, by decide, 97 + t % 26, by decide +kernel, by rw [i2]; exact abc_get b2, ?_⟩
    · exact ⟨by decide, by decide +kernel⟩
    refine ⟨(show 1 + 1 ≤ 1000000 by decide), by decide, ?_⟩
    refine ⟨by simp, fun q1 H3 s3 n3 l3 => ?_⟩
    refine ⟨by decide, by simp, fun q2 H4 s4 n4 l4 => ?_⟩
    refine ⟨by simp, fun q3 H5 s5 n5 l5 => ?_⟩
    rw [i3] at l3 l4
    have s25 := (s3.trans s4).trans s5
    have hD5 := s25 _ _ hD2
    have nDq : ∀ {b : Addr} {H' : Hp} {l : List V}, H' D' = some (.lst l) → H' b = none → b ≠ D' := fun e n z => by rw [z, e] at n; cases n
    have e1 : q1 ≠ D' := nDq hD2 n3
    have e2 : q2 ≠ D' := nDq (s3 _ _ hD2) n4
    have e3 : q3 ≠ D' := nDq ((s3.trans s4) _ _ hD2) n5
    refine ⟨ac, hD5, by rw [sizeLine_eq]; omega, ac ++ [.ref q3], upd_same, by simp [hal], ?_, fun b o e => ?_⟩
    · rw [hide_upd, List.range_succ, List.map_append, List.map_append]
      refine DqAll_snoc (DqAll.same (hide_same s25) _ _ hac) ?_
      have hh : ∀ {b : Addr} {o : HO}, b ≠ D' → H5 b = some o → hide [D'] H5 b = some o := fun hb e => hid_of hb e
      exact row_dq (x := fName t) (as := [((t % 29 : Nat) : Int)]) (bs := [29 - ((t % 29 : Nat) : Int)]) (hh e3 l5) (hh e1 ((s4.trans s5) _ _ l3)) (hh e2 (s5 _ _ l4))
    · rw [upd_ne (ne_of_none e hD)]
      exact s25 _ _ (kp b o e)
  · rintro H2 ⟨ac, hD2, hal, hac, kp⟩
    refine ⟨D', _, rfl, SqL.of hD2, fun g H3 s3 n3 l3 => ?_⟩
    have e2 : Same (hide [D'] H2) H3 := fun b o e => s3 _ _ (hide_of e).1
    exact q g H3 (fun b o e => s3 _ _ (kp b o e)) ⟨ac, SqT.of l3, DqAll.same e2 _ _ hac⟩
end
end K01

set_option Elab.async false
set_option linter.all false
set_option maxRecDepth 100000
set_option maxHeartbeats 1000000
namespace K01
open PySem L2 PySem.KX StX LamX PyProof.Rows
def eightRow : RowN := (wT [97, 98, 99, 100, 101, 102, 103, 104], [0, 1], [0, 1])
def nineRow : RowN := (wT [97, 98, 99, 100, 101, 102, 103, 104, 105], [0], [1])
def downRow : RowN := (wT [97], [1, 0], [1])
theorem row_new {K : PySem.W.Frag} {H H1 H2 : Hp} {x : Str} {as bs : List Int} {q1 q2 q3 : Addr} (h : H2 q3 = some (.tup [.str x, .ref q1, .ref q2])) (h1 : H2 q1 = some (.tup (as.map V.int))) (h2 : H2 q2 = some (.tup (bs.map V.int))) : Dq K H2 (.ref q3) (rowD (x, as, bs)) := row_dq h h1 h2
theorem net_tup {K : PySem.W.Frag} {H : Hp} {q g : Addr} {n : Int} {rows : List RowN} (h : H q = some (.tup [.int n, .ref g])) (t : TupR K H g rows) : Dq K H (.ref q) (netOf n rows) := by
  obtain ⟨xs, h1, h2⟩ := t
  exact .tup (SqT.of h) (.cons (.int n) (.cons (.tup h1 h2) .nil))
theorem DqAll_app {K : PySem.W.Frag} {H : Hp} : ∀ {vs us : List V} {ds es : List PyData}, DqAll K H vs ds → DqAll K H us es → DqAll K H (vs ++ us) (ds ++ es)
  | _, _, _, _, .nil, h => h
  | _, _, _, _, .cons h t, k => .cons h (DqAll_app t k)
theorem DqAll_take {K : PySem.W.Frag} {H : Hp} : ∀ {vs : List V} {ds : List PyData} (n : Nat), DqAll K H vs ds → DqAll K H (vs.take n) (ds.take n)
  | _, _, 0, _ => .nil
  | _, _, _ + 1, .nil => .nil
  | _, _, n + 1, .cons h t => .cons h (DqAll_take n t)
section
variable {P : Program} {w : World} {K : PySem.W.Frag} {mg : Str → Option Value} {base : Heap} {f : Addr} {cdv : Value} {A : Around} {outer : List Env} {s : Shared} {H0 : Hp} {E0' : XK} {c : MetC} {T : List (Addr × Str)}
theorem lr_told (TA : TxtA mg) (hr : RoomG 17 (A.deeper (envOfC "_law_limits_right" (defScope s_law_limits_right) s.heap.objs.size f cdv))) (O_is : Own P w K mg base CX0 "is_net" 5 ["value"] (spN K netD)) {H : Hp} {D : Ends} {g : Addr} (hg : TupR K H g forty)
    (q : ∀ (t : V) (H' : Hp), Same H H' → ∃ t', PSs (X_lr P w K mg base f cdv A outer s H0 E0') ((defBody s_law_limits_right).drop 6) t' ∧ t' D [some (.str abc), some (.ref g), some t, none, none, none, none, none, none, none] H') :
    ∃ t, PSs (X_lr P w K mg base f cdv A outer s H0 E0') ((defBody s_law_limits_right).drop 2) t ∧ t D [some (.str abc), some (.ref g), none, none, none, none, none, none, none, none] H := by
  have nd := sc_law_limits_right.nd
  obtain ⟨tk1, gp⟩ := TA.g_MAX_PLACES
  obtain ⟨tk2, gs⟩ := TA.g_MAX_STEPS
  refine ⟨_, (pss_cons (ps_set (i := 2) nd rfl (by first | exact Or.inl rfl | exact Or.inr rfl) (pe_lstS (pa_cons (pe_own O_is hr (pa_cons (pe_tupS (pa_cons pe_int (pa_cons (av 1) pa_nil))) pa_nil) (by decide)) (pa_cons (pe_own O_is hr (pa_cons (pe_tupS (pa_cons pe_int (pa_cons (av 1) pa_nil))) pa_nil) (by decide)) (pa_cons (pe_own O_is hr (pa_cons (pe_tupS (pa_cons pe_int (pa_cons (av 1) pa_nil))) pa_nil) (by decide)) (pa_cons (pe_own O_is hr (pa_cons (pe_tupS (pa_cons pe_int (pa_cons (pe_op op_addS (av 1) (pe_tupS (pa_cons (pe_tupS (pa_cons pe_str (pa_cons (pe_tupS (pa_cons pe_int pa_nil)) (pa_cons (pe_tupS (pa_cons pe_int pa_nil)) pa_nil)))) pa_nil))) pa_nil))) pa_nil) (by decide)) pa_nil))))))
      (pss_cons (ps_set (i := 2) nd rfl (by first | exact Or.inl rfl | exact Or.inr rfl) (pe_op op_addS (av 2) (pe_lstS (pa_cons (pe_own O_is hr (pa_cons (pe_tupS (pa_cons pe_int (pa_cons (pe_slice sl_tupS (av 1) po_none (po_some pe_int)) pa_nil))) pa_nil) (by decide)) (pa_cons (pe_own O_is hr (pa_cons (pe_tupS (pa_cons pe_int (pa_cons (pe_tupS (pa_cons (pe_tupS (pa_cons pe_str (pa_cons (pe_tupS (pa_cons pe_int (pa_cons pe_int pa_nil))) (pa_cons (pe_tupS (pa_cons pe_int (pa_cons pe_int pa_nil))) pa_nil)))) pa_nil)) pa_nil))) pa_nil) (by decide)) pa_nil)))))
      (pss_cons (ps_set (i := 2) nd rfl (by first | exact Or.inl rfl | exact Or.inr rfl) (pe_op op_addS (av 2) (pe_lstS (pa_cons (pe_own O_is hr (pa_cons (pe_tupS (pa_cons pe_int (pa_cons (pe_tupS (pa_cons (pe_tupS (pa_cons pe_str (pa_cons (pe_tupS (pa_cons pe_int pa_nil)) (pa_cons (pe_tupS (pa_cons pe_int pa_nil)) pa_nil)))) pa_nil)) pa_nil))) pa_nil) (by decide)) (pa_cons (pe_own O_is hr (pa_cons (pe_tupS (pa_cons pe_int (pa_cons (pe_tupS (pa_cons (pe_tupS (pa_cons pe_str (pa_cons (pe_tupS (pa_cons pe_int (pa_cons pe_int pa_nil))) (pa_cons (pe_tupS (pa_cons pe_int pa_nil)) pa_nil)))) pa_nil)) pa_nil))) pa_nil) (by decide)) pa_nil)))))
      (pss_cons (ps_if (PW.pt (pw_or (pt_cmpA (op_neA hr.units64) (av 2) (pe_lstS (pa_cons pe_bl (pa_cons pe_bl (pa_cons pe_bl (pa_cons pe_bl (pa_cons pe_bl (pa_cons pe_bl (pa_cons pe_bl (pa_cons pe_bl pa_nil)))))))))) (pw_or1 (pt_cmpA (op_neA hr.units64) (pe_tupS (pa_cons (pe_glob (v := .int 30) (by rfl) gp ⟨_, rfl⟩) (pa_cons (pe_glob (v := .int 40) (by rfl) gs ⟨_, rfl⟩) pa_nil))) (pe_tupS (pa_cons pe_int (pa_cons pe_int pa_nil))))))) (pss_one (ps_ret pe_bl)) pss_nil)
      pss_any)))), ?_⟩
  obtain ⟨xs, hx, hxd⟩ := id hg
  have hxl : xs.length = 40 := by rw [hxd.length, List.length_map]; decide +kernel
  have one : ∀ {H' : Hp} {b4 b3 b2 b1 : Addr} {r : RowN}, H' b4 = some (.tup [.ref b3]) → H' b3 = some (.tup [.str r.1, .ref b1, .ref b2]) → H' b1 = some (.tup (r.2.1.map V.int)) → H' b2 = some (.tup (r.2.2.map V.int)) → TupR K H' b4 [r] := fun h4 h3 h1 h2 => ⟨_, SqT.of h4, .cons (row_dq h3 h1 h2) .nil⟩
  -- four
  refine ⟨by simp, fun a1 H1 s1 n1 l1 => ?_⟩
  refine ⟨.ref a1, netOf 30 forty, rfl, ⟨net_tup l1 (hg.same s1), by decide +kernel⟩, fun H2 s2 => ?_⟩
  have c2 := s1.trans s2
  refine ⟨by simp, fun a2 H3 s3 n3 l3 => ?_⟩
  have c3 := c2.trans s3
  refine ⟨.ref a2, netOf 29 forty, rfl, ⟨net_tup l3 (hg.same c3), by decide +kernel⟩, fun H4 s4 => ?_⟩
  have c4 := c3.trans s4
  refine ⟨by simp, fun a3 H5 s5 n5 l5 => ?_⟩
  have c5 := c4.trans s5
  refine ⟨.ref a3, netOf 31 forty, rfl, ⟨net_tup l5 (hg.same c5), by decide +kernel⟩, fun H6 s6 => ?_⟩
  have c6 := c5.trans s6
  refine ⟨by simp, fun b1 H7 s7 n7 l7 => ?_⟩
  refine ⟨by simp, fun b2 H8 s8 n8 l8 => ?_⟩
  refine ⟨by simp, fun b3 H9 s9 n9 l9 => ?_⟩
  refine ⟨by simp, fun b4 Ha sa na la => ?_⟩
  have c9 := ((c6.trans s7).trans s8).trans s9
  have ca := c9.trans sa
  refine .inr ⟨xs, _, ca.sqT hx, SqT.of la, by simp; omega, fun b5 Hb sb hb5 => ?_⟩
  have zz : TupR K Ha b4 [zzRow] := one la (sa _ _ l9) ((s8.trans s9).trans sa _ _ l7 : Ha b1 = _) ((s9.trans sa) _ _ l8)
  have t41 : TupR K Hb b5 (forty ++ [zzRow]) := by
    refine ⟨_, hb5, ?_⟩
    rw [List.map_append]
    exact DqAll_app (DqAll.same (ca.trans sb) _ _ hxd) (.cons (row_dq ((sa.trans sb) _ _ l9) (((s8.trans s9).trans (sa.trans sb)) _ _ l7) ((s9.trans (sa.trans sb)) _ _ l8)) .nil)
  refine ⟨by simp, fun b6 Hc sc nc lc => ?_⟩
  refine ⟨.ref b6, netOf 30 (forty ++ [zzRow]), rfl, ⟨net_tup lc (t41.same sc), by decide +kernel⟩, fun Hd sd => ?_⟩
  have cd := ((ca.trans sb).trans sc).trans sd
  refine ⟨by simp, fun L He se ne le => ?_⟩
  have ce := cd.trans se
  -- two
  refine ⟨39, rfl, g, xs, rfl, ce.sqT hx, fun d1 Hf sf hd1 => ?_⟩
  rw [show (39 : Int) = ((39 : Nat) : Int) from rfl, cutV_to] at hd1
  have cf := ce.trans sf
  have t39 : TupR K Hf d1 (forty.take 39) := ⟨_, hd1, by rw [List.map_take]; exact DqAll_take 39 (DqAll.same cf _ _ hxd)⟩
  refine ⟨by simp, fun d2 Hg sg ng lg => ?_⟩
  refine ⟨.ref d2, netOf 30 (forty.take 39), rfl, ⟨net_tup lg (t39.same sg), by decide +kernel⟩, fun Hh sh => ?_⟩
  have ch := ((cf.trans sg).trans sh)
  refine ⟨by simp, fun e1 eH0 es0 _ el1 => ?_⟩
  refine ⟨by simp, fun e2 eH1 es1 _ el2 => ?_⟩
  refine ⟨by simp, fun e3 eH2 es2 _ el3 => ?_⟩
  refine ⟨by simp, fun e4 eH3 es3 _ el4 => ?_⟩
  have et : TupR K eH3 e4 [eightRow] := one el4 (es3 _ _ el3) (((es1.trans es2).trans es3) _ _ el1) ((es2.trans es3) _ _ el2)
  refine ⟨by simp, fun e5 eH4 es4 _ el5 => ?_⟩
  refine ⟨.ref e5, netOf 2 [eightRow], rfl, ⟨net_tup el5 (et.same es4), by decide +kernel⟩, fun eH5 es5 => ?_⟩
  have ec := (((((es0.trans es1).trans es2).trans es3).trans es4).trans es5)
  refine ⟨by simp, fun L2 Hi si ni li => ?_⟩
  have lLi := (((sf.trans sg).trans sh).trans (ec.trans si)) _ _ le
  refine .inl ⟨_, _, lLi, li, by simp, fun L3 Hj sj nj lj => ?_⟩
  have cj := (ch.trans (ec.trans si)).trans sj
  refine ⟨by simp, fun f1 fH0 fs0 _ fl1 => ?_⟩
  refine ⟨by simp, fun f2 fH1 fs1 _ fl2 => ?_⟩
  refine ⟨by simp, fun f3 fH2 fs2 _ fl3 => ?_⟩
  refine ⟨by simp, fun f4 fH3 fs3 _ fl4 => ?_⟩
  have ft : TupR K fH3 f4 [nineRow] := one fl4 (fs3 _ _ fl3) (((fs1.trans fs2).trans fs3) _ _ fl1) ((fs2.trans fs3) _ _ fl2)
  refine ⟨by simp, fun f5 fH4 fs4 _ fl5 => ?_⟩
  refine ⟨.ref f5, netOf 2 [nineRow], rfl, ⟨net_tup fl5 (ft.same fs4), by decide +kernel⟩, fun fH5 fs5 => ?_⟩
  have fc := (((((fs0.trans fs1).trans fs2).trans fs3).trans fs4).trans fs5)
  refine ⟨by simp, fun d1 dH0 ds0 _ dl1 => ?_⟩
  refine ⟨by simp, fun d2 dH1 ds1 _ dl2 => ?_⟩
  refine ⟨by simp, fun d3 dH2 ds2 _ dl3 => ?_⟩
  refine ⟨by simp, fun d4 dH3 ds3 _ dl4 => ?_⟩
  have dt : TupR K dH3 d4 [downRow] := one dl4 (ds3 _ _ dl3) (((ds1.trans ds2).trans ds3) _ _ dl1) ((ds2.trans ds3) _ _ dl2)
  refine ⟨by simp, fun d5 dH4 ds4 _ dl5 => ?_⟩
  refine ⟨.ref d5, netOf 2 [downRow], rfl, ⟨net_tup dl5 (dt.same ds4), by decide +kernel⟩, fun dH5 ds5 => ?_⟩
  have dc := (((((ds0.trans ds1).trans ds2).trans ds3).trans ds4).trans ds5)
  refine ⟨by simp, fun L4 Hk sk nk lk => ?_⟩
  have cjk := (fc.trans dc).trans sk
  refine .inl ⟨_, _, cjk _ _ lj, lk, by simp, fun L5 Hm sm nm lm => ?_⟩
  have cm := (cj.trans cjk).trans sm
  refine ⟨by simp, fun L6 Hn sn nn ln => ?_⟩
  have bl8 : ∀ {H' : Hp} {a : Addr} {bs : List Bool}, H' a = some (.lst (bs.map V.bl)) → Dp K H' (.ref a) (.list (bs.map PyData.bool)) := fun {H' a bs} h => .lst (SqL.of h) (by
    clear h
    induction bs with
    | nil => exact .nil
    | cons b r ih => exact .cons (.bl b) ih)
  refine ⟨.list ([netD (netOf 30 forty), netD (netOf 29 forty), netD (netOf 31 forty), netD (netOf 30 (forty ++ [zzRow])), netD (netOf 30 (forty.take 39)), netD (netOf 2 [eightRow]), netD (netOf 2 [nineRow]), netD (netOf 2 [downRow])].map PyData.bool), .list ([true, false, false, false, true, true, false, false].map PyData.bool), bl8 (sn _ _ lm), bl8 ln, ?_, by decide +kernel, ?_⟩
  · rw [forty_net, forty_29, forty_31, forty_zz, forty_39]
    decide +kernel
  have ee : PyData.eqv (.list ([netD (netOf 30 forty), netD (netOf 29 forty), netD (netOf 31 forty), netD (netOf 30 (forty ++ [zzRow])), netD (netOf 30 (forty.take 39)), netD (netOf 2 [eightRow]), netD (netOf 2 [nineRow]), netD (netOf 2 [downRow])].map PyData.bool)) (.list ([true, false, false, false, true, true, false, false].map PyData.bool)) = true := by
    rw [forty_net, forty_29, forty_31, forty_zz, forty_39]
    decide +kernel
  refine ite2 (fun z => absurd z (by rw [ee]; decide)) (fun _ => ?_)
  refine ⟨by simp, fun g1 Ho so no lo => ?_⟩
  refine ⟨by simp, fun g2 Hp' sp np lp => ?_⟩
  refine ⟨.tuple [.int 30, .int 40], .tuple [.int 30, .int 40], .tup (SqT.of (sp _ _ lo)) (.cons (.int _) (.cons (.int _) .nil)), .tup (SqT.of lp) (.cons (.int _) (.cons (.int _) .nil)), by decide +kernel, by decide +kernel, ?_⟩
  have e2 : PyData.eqv (.tuple [.int 30, .int 40]) (.tuple [.int 30, .int 40]) = true := by decide +kernel
  refine ite2 (fun z => absurd z (by rw [e2]; decide)) (fun _ => ?_)
  exact q _ _ (((cm.trans sn).trans so).trans sp)
end
end K01

set_option Elab.async false
set_option linter.all false
set_option maxRecDepth 100000
set_option maxHeartbeats 2000000
namespace K01
open PySem L2 PySem.KX StX LamX PyProof.Rows
abbrev qLr : Str := "_law_limits_right.<locals>.<lambda>"
def rev40 : List RowN := forty.reverse
theorem tidy_forty : rev40.map tidyR = rev40 := by decide +kernel
theorem made_forty : makeD 30 (rev40.map rowD) = netOf 30 forty := make_given forty_good (by rw [tidy_forty]; exact List.reverse_perm _)
theorem netD_few {n : Int} {ds : List PyData} (h : netD (makeD n ds) = true) : ds.length ≤ 40 := by
  have h' : ((decide (2 ≤ n) && decide (n ≤ 30)) && ((decide (1 ≤ ((ds.map putD).mergeSort (PySem.W.dataLe false id)).length) && decide (((ds.map putD).mergeSort (PySem.W.dataLe false id)).length ≤ 40)) && _)) = true := h
  simp only [Bool.and_eq_true, decide_eq_true_eq, List.length_mergeSort, List.length_map] at h'
  exact h'.2.1.2
theorem rows_can {rows : List RowN} (h : ∀ r ∈ rows, WordS r.1) : (rows.map rowD).all canD = true := by
  refine List.all_eq_true.mpr fun d hd => ?_
  obtain ⟨r, hr, rfl⟩ := List.mem_map.mp hd
  show (isNameD (.str r.1) && (intsD (tupI r.2.1) && intsD (tupI r.2.2))) = true
  rw [(h r hr).name, intsD_of, intsD_of]
  rfl
theorem rows_sz {rows : List RowN} (h : ∀ r ∈ rows, r.2.1.length ≤ 60 ∧ r.2.2.length ≤ 60 ∧ r.1.length ≤ 1000) (i : Nat) (x : Str) (ns ms : List Int) (e : (rows.map rowD)[i]? = some (.tuple [.str x, tupI ns, tupI ms])) : ns.length ≤ 60 ∧ ms.length ≤ 60 ∧ x.length ≤ 1000 := by
  rw [List.getElem?_map] at e
  cases e2 : rows[i]? with
  | none => rw [e2] at e; cases e
  | some r =>
    rw [e2] at e
    have e3 : PyData.tuple [.str r.1, tupI r.2.1, tupI r.2.2] = .tuple [.str x, tupI ns, tupI ms] := Option.some.inj e
    injection e3 with e4
    injection e4 with e5 e6
    injection e6 with e7 e8
    injection e8 with e9 _
    injection e5 with e5
    injection e7 with e7
    injection e9 with e9
    have := h r (List.mem_of_getElem? e2)
    have l1 := congrArg List.length e7
    have l2 := congrArg List.length e9
    rw [List.length_map, List.length_map] at l1 l2
    rw [← e5]
    omega
theorem forty_words : ∀ r ∈ rev40 ++ [zzRow], WordS r.1 := by
  intro r hr
  rcases List.mem_append.mp hr with z | z
  · exact (forty_good.row r (List.mem_reverse.mp z)).w
  · rw [List.mem_singleton.mp z]
    exact ⟨by decide +kernel, by decide +kernel, by decide +kernel⟩
theorem forty_sz : ∀ r ∈ rev40 ++ [zzRow], r.2.1.length ≤ 60 ∧ r.2.2.length ≤ 60 ∧ r.1.length ≤ 1000 := by decide +kernel
theorem DqAll_rev {K : PySem.W.Frag} {H : Hp} : ∀ {vs : List V} {ds : List PyData}, DqAll K H vs ds → DqAll K H vs.reverse ds.reverse
  | _, _, .nil => .nil
  | _, _, .cons h t => by
    rw [List.reverse_cons, List.reverse_cons]
    exact DqAll_app (DqAll_rev t) (.cons h .nil)
section
variable {P : Program} {w : World} {K : PySem.W.Frag} {mg : Str → Option Value} {base : Heap} {f : Addr} {cdv : Value} {A : Around} {outer : List Env} {s : Shared} {H0 : Hp} {E0' : XK} {c : MetC} {T : List (Addr × Str)}
theorem lr_made (TA : TxtA mg) (M : MetK K mg c) (LK : LamK base mg cdv T qLr) (hr : RoomG 17 (A.deeper (envOfC "_law_limits_right" (defScope s_law_limits_right) s.heap.objs.size f cdv))) (Om : OwnR P w K mg base (L2.CX P w) "make_net" 14 (spMkR K c.cN c.cI)) {H : Hp} {Q : VK} {g : Addr} {o2 o3 o5 o6 o7 o8 o9 : Option V} (hg : TupR K H g forty) (tb : Tabs T H)
    (q : ∀ H', Q (.bl true) H') :
    ∃ t, PSs (X_lr P w K mg base f cdv A outer s H0 E0') ((defBody s_law_limits_right).drop 9) t ∧ t { nx := fun _ H' => Q .non H', rt := Q } [some (.str abc), some (.ref g), o2, o3, none, o5, o6, o7, o8, o9] H := by
  have nd := sc_law_limits_right.nd
  have hL : ∀ sc, lamSB (defScope s_law_limits_right) sc = true → LamS (X_lr P w K mg base f cdv A outer s H0 E0').env.scope sc := fun _ h => lamS_by h
  obtain ⟨fm, Fm, Gm, Km⟩ := Om.ex
  refine ⟨_, (pss_cons (ps_set (i := 4) nd rfl (by first | exact Or.inl rfl | exact Or.inr rfl) (pe_revT (av 1)))
      (pss_cons (ps_set (i := 5) nd rfl (by first | exact Or.inl rfl | exact Or.inr rfl) (pe_callRG Fm (hr.mono (by decide)) Km rfl Gm pass0 (pa_cons pe_int (pa_cons (pe_ixA (av 4) pe_int) (pa_cons (pe_ixA (av 4) pe_int) (pa_cons (pe_ixA (av 4) pe_int) (pa_cons (pe_ixA (av 4) pe_int) (pa_cons (pe_ixA (av 4) pe_int) (pa_cons (pe_ixA (av 4) pe_int) (pa_cons (pe_ixA (av 4) pe_int) (pa_cons (pe_ixA (av 4) pe_int) (pa_cons (pe_ixA (av 4) pe_int) (pa_cons (pe_ixA (av 4) pe_int) (pa_cons (pe_ixA (av 4) pe_int) (pa_cons (pe_ixA (av 4) pe_int) (pa_cons (pe_ixA (av 4) pe_int) (pa_cons (pe_ixA (av 4) pe_int) (pa_cons (pe_ixA (av 4) pe_int) (pa_cons (pe_ixA (av 4) pe_int) (pa_cons (pe_ixA (av 4) pe_int) (pa_cons (pe_ixA (av 4) pe_int) (pa_cons (pe_ixA (av 4) pe_int) (pa_cons (pe_ixA (av 4) pe_int) (pa_cons (pe_ixA (av 4) pe_int) (pa_cons (pe_ixA (av 4) pe_int) (pa_cons (pe_ixA (av 4) pe_int) (pa_cons (pe_ixA (av 4) pe_int) (pa_cons (pe_ixA (av 4) pe_int) (pa_cons (pe_ixA (av 4) pe_int) (pa_cons (pe_ixA (av 4) pe_int) (pa_cons (pe_ixA (av 4) pe_int) (pa_cons (pe_ixA (av 4) pe_int) (pa_cons (pe_ixA (av 4) pe_int) (pa_cons (pe_ixA (av 4) pe_int) (pa_cons (pe_ixA (av 4) pe_int) (pa_cons (pe_ixA (av 4) pe_int) (pa_cons (pe_ixA (av 4) pe_int) (pa_cons (pe_ixA (av 4) pe_int) (pa_cons (pe_ixA (av 4) pe_int) (pa_cons (pe_ixA (av 4) pe_int) (pa_cons (pe_ixA (av 4) pe_int) (pa_cons (pe_ixA (av 4) pe_int) (pa_cons (pe_ixA (av 4) pe_int) pa_nil)))))))))))))))))))))))))))))))))))))))))))
      (pss_cons (ps_set (i := 6) nd rfl (by first | exact Or.inl rfl | exact Or.inr rfl) (pe_tupS (pa_cons pe_str (pa_cons (pe_tupS (pa_cons pe_int pa_nil)) (pa_cons (pe_tupS (pa_cons pe_int pa_nil)) pa_nil)))))
      (pss_cons (ps_set (i := 7) nd rfl (by first | exact Or.inl rfl | exact Or.inr rfl) (pe_met M LK hr (hL _ (by decide +kernel)) rfl (fun _ _ _ _ _ => rfl) (fun A outer s H E f c' hr2 => show PE _ _ (fun σ H Q => (tCons (tC (.int 30)) (tCons (tOp (rIxA K) (aVar 4) (tC (.int 0))) (tCons (tOp (rIxA K) (aVar 4) (tC (.int 1))) (tCons (tOp (rIxA K) (aVar 4) (tC (.int 2))) (tCons (tOp (rIxA K) (aVar 4) (tC (.int 3))) (tCons (tOp (rIxA K) (aVar 4) (tC (.int 4))) (tCons (tOp (rIxA K) (aVar 4) (tC (.int 5))) (tCons (tOp (rIxA K) (aVar 4) (tC (.int 6))) (tCons (tOp (rIxA K) (aVar 4) (tC (.int 7))) (tCons (tOp (rIxA K) (aVar 4) (tC (.int 8))) (tCons (tOp (rIxA K) (aVar 4) (tC (.int 9))) (tCons (tOp (rIxA K) (aVar 4) (tC (.int 10))) (tCons (tOp (rIxA K) (aVar 4) (tC (.int 11))) (tCons (tOp (rIxA K) (aVar 4) (tC (.int 12))) (tCons (tOp (rIxA K) (aVar 4) (tC (.int 13))) (tCons (tOp (rIxA K) (aVar 4) (tC (.int 14))) (tCons (tOp (rIxA K) (aVar 4) (tC (.int 15))) (tCons (tOp (rIxA K) (aVar 4) (tC (.int 16))) (tCons (tOp (rIxA K) (aVar 4) (tC (.int 17))) (tCons (tOp (rIxA K) (aVar 4) (tC (.int 18))) (tCons (tOp (rIxA K) (aVar 4) (tC (.int 19))) (tCons (tOp (rIxA K) (aVar 4) (tC (.int 20))) (tCons (tOp (rIxA K) (aVar 4) (tC (.int 21))) (tCons (tOp (rIxA K) (aVar 4) (tC (.int 22))) (tCons (tOp (rIxA K) (aVar 4) (tC (.int 23))) (tCons (tOp (rIxA K) (aVar 4) (tC (.int 24))) (tCons (tOp (rIxA K) (aVar 4) (tC (.int 25))) (tCons (tOp (rIxA K) (aVar 4) (tC (.int 26))) (tCons (tOp (rIxA K) (aVar 4) (tC (.int 27))) (tCons (tOp (rIxA K) (aVar 4) (tC (.int 28))) (tCons (tOp (rIxA K) (aVar 4) (tC (.int 29))) (tCons (tOp (rIxA K) (aVar 4) (tC (.int 30))) (tCons (tOp (rIxA K) (aVar 4) (tC (.int 31))) (tCons (tOp (rIxA K) (aVar 4) (tC (.int 32))) (tCons (tOp (rIxA K) (aVar 4) (tC (.int 33))) (tCons (tOp (rIxA K) (aVar 4) (tC (.int 34))) (tCons (tOp (rIxA K) (aVar 4) (tC (.int 35))) (tCons (tOp (rIxA K) (aVar 4) (tC (.int 36))) (tCons (tOp (rIxA K) (aVar 4) (tC (.int 37))) (tCons (tOp (rIxA K) (aVar 4) (tC (.int 38))) (tCons (tOp (rIxA K) (aVar 4) (tC (.int 39))) (tCons (aVar 6) tNil)))))))))))))))))))))))))))))))))))))))))) σ H fun vs H1 => spMkR K c.cN c.cI vs H1 Q E) from
        pe_callRG (X := lamCx (X_lr P w K mg base _ _ _ _ _ H0 E0') A outer s H E _ f c') Fm (hr2.mono (by decide)) Km (by rfl) Gm (lamPass (X := X_lr P w K mg base _ _ _ _ _ H0 E0')) (pa_cons pe_int (pa_cons (pe_ixA (av 4) pe_int) (pa_cons (pe_ixA (av 4) pe_int) (pa_cons (pe_ixA (av 4) pe_int) (pa_cons (pe_ixA (av 4) pe_int) (pa_cons (pe_ixA (av 4) pe_int) (pa_cons (pe_ixA (av 4) pe_int) (pa_cons (pe_ixA (av 4) pe_int) (pa_cons (pe_ixA (av 4) pe_int) (pa_cons (pe_ixA (av 4) pe_int) (pa_cons (pe_ixA (av 4) pe_int) (pa_cons (pe_ixA (av 4) pe_int) (pa_cons (pe_ixA (av 4) pe_int) (pa_cons (pe_ixA (av 4) pe_int) (pa_cons (pe_ixA (av 4) pe_int) (pa_cons (pe_ixA (av 4) pe_int) (pa_cons (pe_ixA (av 4) pe_int) (pa_cons (pe_ixA (av 4) pe_int) (pa_cons (pe_ixA (av 4) pe_int) (pa_cons (pe_ixA (av 4) pe_int) (pa_cons (pe_ixA (av 4) pe_int) (pa_cons (pe_ixA (av 4) pe_int) (pa_cons (pe_ixA (av 4) pe_int) (pa_cons (pe_ixA (av 4) pe_int) (pa_cons (pe_ixA (av 4) pe_int) (pa_cons (pe_ixA (av 4) pe_int) (pa_cons (pe_ixA (av 4) pe_int) (pa_cons (pe_ixA (av 4) pe_int) (pa_cons (pe_ixA (av 4) pe_int) (pa_cons (pe_ixA (av 4) pe_int) (pa_cons (pe_ixA (av 4) pe_int) (pa_cons (pe_ixA (av 4) pe_int) (pa_cons (pe_ixA (av 4) pe_int) (pa_cons (pe_ixA (av 4) pe_int) (pa_cons (pe_ixA (av 4) pe_int) (pa_cons (pe_ixA (av 4) pe_int) (pa_cons (pe_ixA (av 4) pe_int) (pa_cons (pe_ixA (av 4) pe_int) (pa_cons (pe_ixA (av 4) pe_int) (pa_cons (pe_ixA (av 4) pe_int) (pa_cons (pe_ixA (av 4) pe_int) (pa_cons (av 6) pa_nil)))))))))))))))))))))))))))))))))))))))))))))
      (pss_one (ps_ret (pe_and (pe_cmpA (op_eqQ hr.units64) (av 5) (pe_tupS (pa_cons pe_int (pa_cons (av 1) pa_nil)))) (pe_one (pe_cmpA (op_eqA hr.units64) (av 7) (pe_lstS (pa_cons pe_str pa_nil))))))))))), ?_⟩
  obtain ⟨xs, hx, hxd⟩ := id hg
  refine ⟨g, xs, rfl, hx, fun a4 H1 s1 n1 l1 => ?_⟩
  have hyd : DqAll K H1 xs.reverse (rev40.map rowD) := by
    have := DqAll_rev (DqAll.same s1 _ _ hxd)
    rw [← List.map_reverse] at this
    exact this
  have hlen : xs.reverse.length = 40 := by rw [hyd.length, List.length_map]; decide +kernel
  generalize xs.reverse = ys at l1 hyd hlen
  match ys, hlen, l1, hyd with
  | y0 :: y1 :: y2 :: y3 :: y4 :: y5 :: y6 :: y7 :: y8 :: y9 :: y10 :: y11 :: y12 :: y13 :: y14 :: y15 :: y16 :: y17 :: y18 :: y19 :: y20 :: y21 :: y22 :: y23 :: y24 :: y25 :: y26 :: y27 :: y28 :: y29 :: y30 :: y31 :: y32 :: y33 :: y34 :: y35 :: y36 :: y37 :: y38 :: y39 :: [], _, l1, hyd =>
    refine .inr ⟨_, y0, SqT.of l1, rfl, ?_⟩
    refine .inr ⟨_, y1, SqT.of l1, rfl, ?_⟩
    refine .inr ⟨_, y2, SqT.of l1, rfl, ?_⟩
    refine .inr ⟨_, y3, SqT.of l1, rfl, ?_⟩
    refine .inr ⟨_, y4, SqT.of l1, rfl, ?_⟩
    refine .inr ⟨_, y5, SqT.of l1, rfl, ?_⟩
    refine .inr ⟨_, y6, SqT.of l1, rfl, ?_⟩
    refine .inr ⟨_, y7, SqT.of l1, rfl, ?_⟩
    refine .inr ⟨_, y8, SqT.of l1, rfl, ?_⟩
    refine .inr ⟨_, y9, SqT.of l1, rfl, ?_⟩
    refine .inr ⟨_, y10, SqT.of l1, rfl, ?_⟩
    refine .inr ⟨_, y11, SqT.of l1, rfl, ?_⟩
    refine .inr ⟨_, y12, SqT.of l1, rfl, ?_⟩
    refine .inr ⟨_, y13, SqT.of l1, rfl, ?_⟩
    refine .inr ⟨_, y14, SqT.of l1, rfl, ?_⟩
    refine .inr ⟨_, y15, SqT.of l1, rfl, ?_⟩
    refine .inr ⟨_, y16, SqT.of l1, rfl, ?_⟩
    refine .inr ⟨_, y17, SqT.of l1, rfl, ?_⟩
    refine .inr ⟨_, y18, SqT.of l1, rfl, ?_⟩
    refine .inr ⟨_, y19, SqT.of l1, rfl, ?_⟩
    refine .inr ⟨_, y20, SqT.of l1, rfl, ?_⟩
    refine .inr ⟨_, y21, SqT.of l1, rfl, ?_⟩
    refine .inr ⟨_, y22, SqT.of l1, rfl, ?_⟩
    refine .inr ⟨_, y23, SqT.of l1, rfl, ?_⟩
    refine .inr ⟨_, y24, SqT.of l1, rfl, ?_⟩
    refine .inr ⟨_, y25, SqT.of l1, rfl, ?_⟩
    refine .inr ⟨_, y26, SqT.of l1, rfl, ?_⟩
    refine .inr ⟨_, y27, SqT.of l1, rfl, ?_⟩
    refine .inr ⟨_, y28, SqT.of l1, rfl, ?_⟩
    refine .inr ⟨_, y29, SqT.of l1, rfl, ?_⟩
    refine .inr ⟨_, y30, SqT.of l1, rfl, ?_⟩
    refine .inr ⟨_, y31, SqT.of l1, rfl, ?_⟩
    refine .inr ⟨_, y32, SqT.of l1, rfl, ?_⟩
    refine .inr ⟨_, y33, SqT.of l1, rfl, ?_⟩
    refine .inr ⟨_, y34, SqT.of l1, rfl, ?_⟩
    refine .inr ⟨_, y35, SqT.of l1, rfl, ?_⟩
    refine .inr ⟨_, y36, SqT.of l1, rfl, ?_⟩
    refine .inr ⟨_, y37, SqT.of l1, rfl, ?_⟩
    refine .inr ⟨_, y38, SqT.of l1, rfl, ?_⟩
    refine .inr ⟨_, y39, SqT.of l1, rfl, ?_⟩
    refine mk_use (v := .int 30) (dp := .int 30) (ds := rev40.map rowD) ⟨.int 30, rfl⟩ (by simp [PyData.depth]) hyd ⟨by decide +kernel, by decide +kernel, rows_sz fun r hr => forty_sz r (List.mem_append_left _ hr), fun c1 => absurd c1 (by decide), fun _ c2 => absurd ((rows_can fun r hr => forty_words r (List.mem_append_left _ hr)).symm.trans c2) (by decide), fun n e _ _ c3 => ?_, fun n e _ _ _ r H2 s2 hr2 => ?_⟩
    · cases e
      rw [made_forty, forty_net] at c3
      cases c3
    cases e
    rw [made_forty] at hr2
    refine ⟨by simp, fun e1 H3 s3 n3 l3 => ?_⟩
    refine ⟨by simp, fun e2 H4 s4 n4 l4 => ?_⟩
    refine ⟨by simp, fun e3 H4' s4' n4' l4' => ?_⟩
    have s14 := ((s2.trans s3).trans s4).trans s4'
    refine ⟨tabs_same tb (s1.trans s14), fun H5 eN t5 => ?_⟩
    have l5 : H5 a4 = some (.tup [y0, y1, y2, y3, y4, y5, y6, y7, y8, y9, y10, y11, y12, y13, y14, y15, y16, y17, y18, y19, y20, y21, y22, y23, y24, y25, y26, y27, y28, y29, y30, y31, y32, y33, y34, y35, y36, y37, y38, y39]) := eN _ _ (s14 _ _ l1) fun ps z => nomatch z
    refine .inr ⟨_, y0, SqT.of l5, rfl, ?_⟩
    refine .inr ⟨_, y1, SqT.of l5, rfl, ?_⟩
    refine .inr ⟨_, y2, SqT.of l5, rfl, ?_⟩
    refine .inr ⟨_, y3, SqT.of l5, rfl, ?_⟩
    refine .inr ⟨_, y4, SqT.of l5, rfl, ?_⟩
    refine .inr ⟨_, y5, SqT.of l5, rfl, ?_⟩
    refine .inr ⟨_, y6, SqT.of l5, rfl, ?_⟩
    refine .inr ⟨_, y7, SqT.of l5, rfl, ?_⟩
    refine .inr ⟨_, y8, SqT.of l5, rfl, ?_⟩
    refine .inr ⟨_, y9, SqT.of l5, rfl, ?_⟩
    refine .inr ⟨_, y10, SqT.of l5, rfl, ?_⟩
    refine .inr ⟨_, y11, SqT.of l5, rfl, ?_⟩
    refine .inr ⟨_, y12, SqT.of l5, rfl, ?_⟩
    refine .inr ⟨_, y13, SqT.of l5, rfl, ?_⟩
    refine .inr ⟨_, y14, SqT.of l5, rfl, ?_⟩
    refine .inr ⟨_, y15, SqT.of l5, rfl, ?_⟩
    refine .inr ⟨_, y16, SqT.of l5, rfl, ?_⟩
    refine .inr ⟨_, y17, SqT.of l5, rfl, ?_⟩
    refine .inr ⟨_, y18, SqT.of l5, rfl, ?_⟩
    refine .inr ⟨_, y19, SqT.of l5, rfl, ?_⟩
    refine .inr ⟨_, y20, SqT.of l5, rfl, ?_⟩
    refine .inr ⟨_, y21, SqT.of l5, rfl, ?_⟩
    refine .inr ⟨_, y22, SqT.of l5, rfl, ?_⟩
    refine .inr ⟨_, y23, SqT.of l5, rfl, ?_⟩
    refine .inr ⟨_, y24, SqT.of l5, rfl, ?_⟩
    refine .inr ⟨_, y25, SqT.of l5, rfl, ?_⟩
    refine .inr ⟨_, y26, SqT.of l5, rfl, ?_⟩
    refine .inr ⟨_, y27, SqT.of l5, rfl, ?_⟩
    refine .inr ⟨_, y28, SqT.of l5, rfl, ?_⟩
    refine .inr ⟨_, y29, SqT.of l5, rfl, ?_⟩
    refine .inr ⟨_, y30, SqT.of l5, rfl, ?_⟩
    refine .inr ⟨_, y31, SqT.of l5, rfl, ?_⟩
    refine .inr ⟨_, y32, SqT.of l5, rfl, ?_⟩
    refine .inr ⟨_, y33, SqT.of l5, rfl, ?_⟩
    refine .inr ⟨_, y34, SqT.of l5, rfl, ?_⟩
    refine .inr ⟨_, y35, SqT.of l5, rfl, ?_⟩
    refine .inr ⟨_, y36, SqT.of l5, rfl, ?_⟩
    refine .inr ⟨_, y37, SqT.of l5, rfl, ?_⟩
    refine .inr ⟨_, y38, SqT.of l5, rfl, ?_⟩
    refine .inr ⟨_, y39, SqT.of l5, rfl, ?_⟩
    have ke := keptQ_extN eN
    have hyd5 := DqAll.keep ke _ _ (DqAll.same s14 _ _ hyd)
    have zz5 : Dq K H5 (.ref e3) (rowD zzRow) := row_dq (x := zzRow.1) (as := zzRow.2.1) (bs := zzRow.2.2) (eN _ _ l4' fun ps z => (nomatch z)) (eN _ _ ((s4.trans s4') _ _ l3) fun ps z => (nomatch z)) (eN _ _ (s4' _ _ l4) fun ps z => (nomatch z))
    have all5 : DqAll K H5 ([y0, y1, y2, y3, y4, y5, y6, y7, y8, y9, y10, y11, y12, y13, y14, y15, y16, y17, y18, y19, y20, y21, y22, y23, y24, y25, y26, y27, y28, y29, y30, y31, y32, y33, y34, y35, y36, y37, y38, y39] ++ [.ref e3]) ((rev40 ++ [zzRow]).map rowD) := by
      rw [List.map_append]
      exact DqAll_app hyd5 (.cons zz5 .nil)
    have g5 : Dq K H5 (.ref g) (.tuple (forty.map rowD)) := Dq.keep ke _ _ (Dq.same (s1.trans s14) _ _ (.tup hx hxd))
    have r5 : Dq K H5 r (netOf 30 forty) := Dq.keep ke _ _ (Dq.same ((s3.trans s4).trans s4') _ _ hr2)
    have ee : PyData.eqv (netOf 30 forty) (netOf 30 forty) = true := by decide +kernel
    have sp : SeqAt.shaped (netOf 30 forty) = true := by decide +kernel
    have en : PyData.eqv (.list [.str "net"]) (.list [.str "net"]) = true := by decide +kernel
    refine mk_use (v := .int 30) (dp := .int 30) (ds := (rev40 ++ [zzRow]).map rowD) ⟨.int 30, rfl⟩ (by simp [PyData.depth]) all5 ⟨by decide +kernel, by decide +kernel, rows_sz forty_sz, fun c1 => absurd c1 (by decide), fun _ c2 => absurd ((rows_can forty_words).symm.trans c2) (by decide), fun n e _ _ c3 H6 s6 => ?_, fun n e _ _ c3 => ?_⟩
    · cases e
      refine .inr (.inr ⟨"net", rfl, .inl ⟨rfl, rfl⟩, fun a H7 s7 na l7 => ?_⟩)
      refine ⟨by simp, fun b1 H8 s8 n8 l8 => ?_⟩
      have s58 := (s6.trans s7).trans s8
      refine ⟨netOf 30 forty, netOf 30 forty, Dq.same s58 _ _ r5, .tup (SqT.of l8) (.cons (.int 30) (.cons (Dq.same s58 _ _ g5) .nil)), sp, sp, ?_⟩
      refine ⟨true, by rw [ee], ?_⟩
      refine iteT ?_
      refine ⟨by simp, fun b2 H9 s9 n9 l9 => ?_⟩
      refine ⟨.list [.str "net"], .list [.str "net"], .lst (SqL.of ((s8.trans s9) _ _ l7)) (.cons (.str _) .nil), .lst (SqL.of l9) (.cons (.str _) .nil), by decide +kernel, by decide +kernel, ?_⟩
      show Q (.bl (PyData.eqv _ _)) H9
      rw [en]
      exact q H9
    · cases e
      have := netD_few c3
      rw [List.length_map] at this
      exact absurd this (by decide +kernel)
end
end K01

set_option Elab.async false
set_option linter.all false
set_option maxRecDepth 100000
set_option maxHeartbeats 1000000
/-! a step one part of which is a dict with something in it. -/
namespace K01
open PySem L2 PySem.KX StX LamX PyProof.Rows
section
variable {P : Program} {w : World} {K : PySem.W.Frag} {mg : Str → Option Value} {base : Heap}
def spDct : Sp := fun vs H Q _ => ∃ (D : Addr) (kvs : List (Key × V)), vs = [.ref D] ∧ H D = some (.dK kvs) ∧ ∀ H', Same H H' → Q (.bl false) H'
theorem ok_are_dct {f : Addr} {fd : FuncData} (F : Fun K "are_integers" "are_integers" sare_integers f fd) (T : TxtA mg) (Ois_integer : Own P w K mg base CX0 "is_integer" 1 ["value"] (spT K isIntD)) : FnG P w K mg base CX0 2 f fd ["value"] spDct := by
  have nd := scare_integers.nd
  refine okG F scare_integers (fun vs H Q E h => ?_) (fun cdv A outer s H vs Q E hr h => ?_)
  · obtain ⟨_, _, rfl, _⟩ := h
    rfl
  · obtain ⟨D, kvs, rfl, hD, k⟩ := h
    refine ⟨_, (pss_one (ps_ret (pe_and (pe_callB call_isiA (by rfl) T.isinstance (by decide +kernel) (pa_cons (av 0) (pa_cons (pe_bltn (v := .ty "tuple") (u := .type "tuple") rfl T.tuple (by decide +kernel) rfl) pa_nil))) (pe_one (pe_callB (cr_all rfl) (by rfl) T.all (by decide +kernel) (pa_cons (pe_lc (own := [("part", 1)]) (by rfl) nd (pi_tup (av 0)) (blkOk_by (N := ["value", "part"]) (sc := defScope sare_integers) (by decide +kernel)) (fun _ _ _ _ _ => (pg_name (i := 1) nd rfl (Or.inl rfl))) (fun _ _ _ _ _ => pts_nil) (fun _ _ _ _ _ => PE.up (pe_own Ois_integer hr (pa_cons (av 1) pa_nil) (by decide)))) pa_nil)))))), ?_⟩
    refine ⟨_, _, _, _, _, rfl, .ty _, .x (.base (.dK hD)), kit_ty (kit_tuple (.dict [])), _, rfl, ?_⟩
    exact iteF (k _ (Same.refl _))
def spStepX (K : PySem.W.Frag) : Sp := fun vs H Q _ => ∃ (t b D : Addr) (x : Str) (ns : List Int) (kvs : List (Key × V)), vs = [.ref t] ∧ SqT K H t [.str x, .ref b, .ref D] ∧ isNameD (.str x) = true ∧ SqT K H b (ns.map V.int) ∧ ns.length ≤ 60 ∧ H D = some (.dK kvs) ∧ ∀ H', Same H H' → Q (.bl false) H'
theorem fn_or {CX : CXT} {k : Nat} {f : Addr} {fd : FuncData} {ps : List Str} {sp1 sp2 : Sp} (F1 : FnG P w K mg base CX k f fd ps sp1) (F2 : FnG P w K mg base CX k f fd ps sp2) : FnG P w K mg base CX k f fd ps (fun vs H Q E => sp1 vs H Q E ∨ sp2 vs H Q E) :=
  ⟨fun vs H Q E q => q.elim (F1.len vs H Q E) (F2.len vs H Q E), fun A outer s H args us vs Q E hr e b v q => q.elim (F1.run A outer s H args us vs Q E hr e b v) (F2.run A outer s H args us vs Q E hr e b v)⟩
theorem ok_can_dct {f : Addr} {fd : FuncData} (F : Fun K "_can_be_put_in_order" "_can_be_put_in_order" s_can_be_put_in_order f fd) (T : TxtA mg) (Ois_name : Own P w K mg base CX0 "is_name" 1 ["value"] (spN K isNameD)) (Oare_integers : Own P w K mg base CX0 "are_integers" 2 ["value"] (fun vs H Q E => spN K intsD vs H Q E ∨ spDct vs H Q E)) :
    FnG P w K mg base CX0 3 f fd ["value"] (spStepX K) := by
  have nd := sc_can_be_put_in_order.nd
  refine okG F sc_can_be_put_in_order (fun vs H Q E h => ?_) (fun cdv A outer s H vs Q E hr h => ?_)
  · obtain ⟨_, _, _, _, _, _, rfl, _⟩ := h
    rfl
  · obtain ⟨t, b, D, x, ns, kvs, rfl, ht, hxn, hb, hl, hD, k⟩ := h
    refine ⟨_, (pss_cons (ps_if (PW.pt (pw_or (pt_not (pt_valA (pe_callB call_isiA (by rfl) T.isinstance (by decide +kernel) (pa_cons (av 0) (pa_cons (pe_bltn (v := .ty "tuple") (u := .type "tuple") rfl T.tuple (by decide +kernel) rfl) pa_nil))))) (pw_or1 (pt_cmpA (op_neA hr.units64) (pe_callB call_lenA (by rfl) T.len PySem.boot_len (pa_cons (av 0) pa_nil)) pe_int)))) (pss_one (ps_ret pe_bl)) pss_nil)
      (pss_cons (ps_asg (av 0) (pg_tup rfl (pgs_cons (pg_name (i := 1) nd rfl (Or.inl rfl)) (pgs_cons (pg_name (i := 2) nd rfl (Or.inl rfl)) (pgs_cons (pg_name (i := 3) nd rfl (Or.inl rfl)) pgs_nil)))))
      (pss_one (ps_ret (pe_and (pe_own Ois_name hr (pa_cons (av 1) pa_nil) (by decide)) (pe_and (pe_own Oare_integers hr (pa_cons (av 2) pa_nil) (by decide)) (pe_one (pe_own Oare_integers hr (pa_cons (av 3) pa_nil) (by decide))))))))), ?_⟩
    have wx : Wd K H (.str x) (.str x) := ⟨.str x, by
      have h' : ((decide (1 ≤ x.length) && decide (x.length ≤ 8)) && x.cps.toList.all lowC) = true := hxn
      simp only [Bool.and_eq_true, decide_eq_true_eq] at h'
      simp only [smQ, decide_eq_true_eq]
      omega⟩
    have it : TyE K H (.ref t) (.type "tuple") := by
      rcases ht with (hs | ⟨o, hs⟩) | ⟨o, its, n, hk, hc, _⟩
      · exact .x (.base (.tup hs))
      · exact .x (.fTuple hs)
      · exact .x (.kTuple hk hc)
    refine ⟨_, _, _, _, _, rfl, .ty _, it, kit_ty (kit_tuple (.tuple [])), ?_⟩
    refine iteF ?_
    obtain ⟨xs, hxs⟩ : ∃ xs, xs = [V.str x, V.ref b, V.ref D] := ⟨_, rfl⟩
    rw [← hxs] at ht
    have hlen : xs.length = 3 := by rw [hxs]; rfl
    refine .inr ⟨xs, ht, ?_⟩
    have c : (!decide ((xs.length : Int) = 3)) = false := by rw [decide_eq_true (by omega)]; rfl
    show (if (!decide ((xs.length : Int) = 3)) = true then _ else _)
    rw [c]
    refine iteF ?_
    subst hxs
    refine ⟨t, _, rfl, ht, rfl, _, _, rfl, _, _, rfl, _, _, rfl, rfl, ?_⟩
    refine ⟨.str x, .str x, rfl, wx, fun H1 s1 => ⟨_, rfl, ?_⟩⟩
    rw [hxn]
    have e : ∀ (H' : Hp) (l : List Int), DqAll K H' (l.map V.int) (l.map PyData.int) := fun H' l => by
      induction l with
      | nil => exact .nil
      | cons k r ih => exact .cons (.int k) ih
    have wb : Wd K H1 (.ref b) (tupI ns) := ⟨.tup (s1.sqT hb) (e H1 ns), by
      simp only [smQ, sm_ints, Bool.and_true, decide_eq_true_eq, List.length_map]
      omega⟩
    refine iteT (.inl ⟨.ref b, tupI ns, rfl, wb, fun H2 s2 => ⟨_, rfl, ?_⟩⟩)
    rw [intsD_of]
    exact iteT (.inr ⟨D, kvs, rfl, s2 _ _ (s1 _ _ hD), fun H3 s3 => k _ ((s1.trans s2).trans s3)⟩)
end
end K01

set_option Elab.async false
set_option linter.all false
set_option maxRecDepth 100000
set_option maxHeartbeats 1000000
namespace K01
open PySem L2 PySem.KX StX LamX PyProof.Rows
section
variable {P : Program} {w : World} {K : PySem.W.Frag} {mg : Str → Option Value} {base : Heap}
def spMkX (K : PySem.W.Frag) (cI : Addr) : Sp := fun vs H Q E => ∃ (t t3 b D : Addr) (x : Str) (ns : List Int) (kvs : List (Key × V)), vs = [.int 3, .ref t] ∧ SqT K H t [.ref t3] ∧ SqT K H t3 [.str x, .ref b, .ref D] ∧ isNameD (.str x) = true ∧ SqT K H b (ns.map V.int) ∧ ns.length ≤ 60 ∧ H D = some (.dK kvs) ∧ ∀ H', Same H H' → E (.ref cI) none H'
theorem ok_make_dct {f cN cI : Addr} {fd : FuncData} (F : Fun K "make_net" "make_net" smake_net f fd) (T : TxtA mg) (S : TxtS mg) (En : ErrQ P w K mg base "InvalidNumber" cN "value" "IndexError" "IndexError.__new__" "IndexError.__init__" tIndex) (Ei : ErrM K mg "InvalidNet" cI "ValueError.__new__" bmVE) (tI : PySem.W.typeIn K (.ref cI) = some (.type "type"))
    (Ois_integer_within : Own P w K mg base CX0 "is_integer_within" 2 ["value", "least", "most"] (spWithin K)) (O_can : Own P w K mg base CX0 "_can_be_put_in_order" 3 ["value"] (fun vs H Q E => spN K canD vs H Q E ∨ spStepX K vs H Q E)) (O_put : Own P w K mg base CX0 "_put_in_order" 1 ["step"] (spPut K)) (Ocheck_net : Own P w K mg base (L2.CX P w) "check_net" 6 ["net"] (spChk K cI netD)) :
    FnRG P w K mg base (L2.CX P w) 14 f (fun vs H Q E => ∃ ws rest, vs = ws ++ rest ∧ ws.length = 1 ∧ rest.length ≤ sizeLine ∧ ∀ p, H p = none → spMkX K cI (ws ++ [V.ref p]) (upd H p (.tup rest)) Q E) := by
  have nd := scmake_net.nd
  obtain ⟨oc, od, kV, doc, pm, an, cdv, ct, osl, rfl, lk, hcd⟩ := F.ex
  refine fn_starG (ps := ["places"]) (pv := "steps") lk hcd scmake_net cxUp ?_ (fun A outer s H vs Q E hr h => ?_)
  · intro us rest hl
    match us, rest, hl with
    | [a], [], _ => rfl
    | [a], r :: rs, _ => rfl
  · obtain ⟨t, t3, b, D, x, ns, kvs, rfl, ht, ht3, hxn, hb, hl, hD, k⟩ := h
    refine ⟨_, (pss_cons (ps_if (pt_not (pt_valA (pe_own Ois_integer_within hr (pa_cons (av 0) (pa_cons pe_int (pa_cons (pe_gint T.g_MAX_PLACES) pa_nil))) (by decide)))) (pss_one (ps_raise rfl takesE (pmk_errQ En hr (av 0)))) pss_nil)
      (pss_cons (ps_if (pt_not (pt_valA (pe_callB (cr_all rfl) (by rfl) T.all (by decide +kernel) (pa_cons (pe_lc (own := [("step", 3)]) (by rfl) nd (pi_tup (av 1)) (blkOk_by (N := ["places", "steps", "net", "step"]) (sc := defScope smake_net) (by decide +kernel)) (fun _ _ _ _ _ => (pg_name (i := 3) nd rfl (Or.inl rfl))) (fun _ _ _ _ _ => pts_nil) (fun _ _ _ _ _ => PE.up (pe_own O_can hr (pa_cons (av 3) pa_nil) (by decide)))) pa_nil)))) (pss_one (ps_raise rfl takesE (pmk_own FVE Ei.q Ei.g Ei.k (raises_own Ei.xi.ex tI) rfl))) pss_nil)
      (pss_cons (ps_set (i := 2) nd rfl (Or.inl rfl) (pe_tupS (pa_cons (av 0) (pa_cons (pe_callTy call_tupleA (by rfl) T.tuple (by decide +kernel) (pa_cons (pe_callB (call_sortedQ hr.units64) (by rfl) S.sorted (by decide +kernel) (pa_cons (pe_lc (own := [("step", 3)]) (by rfl) nd (pi_tup (av 1)) (blkOk_by (N := ["places", "steps", "net", "step"]) (sc := defScope smake_net) (by decide +kernel)) (fun _ _ _ _ _ => (pg_name (i := 3) nd rfl (Or.inl rfl))) (fun _ _ _ _ _ => pts_nil) (fun _ _ _ _ _ => PE.up (pe_own O_put hr (pa_cons (av 3) pa_nil) (by decide)))) pa_nil)) pa_nil)) pa_nil))))
      (pss_cons (ps_expr (pe_ownX Ocheck_net hr passE (pa_cons (av 2) pa_nil) (by decide)))
      (pss_one (ps_ret (av 2))))))), ?_⟩
    refine ⟨.int 3, .int 3, 2, 30, rfl, ⟨.int 3, rfl⟩, ?_⟩
    refine iteF ⟨t, rfl, ⟨_, ht⟩, fun D' hD' => ?_⟩
    refine lc_itS (walk_tup (xs := [V.ref t3])) (fun j u _ => u = .bl false) (fun _ _ _ _ _ h => h) hD' (by simp) (fun H' s5 => s5.sqT ht) (fun j z H' H2 hj s5 hD5 ⟨e2, hz⟩ => ?_) gName_mono (fun H' acc s6 hl2 la hacc => ?_)
    · subst e2
      have hz2 : z = V.ref t3 := by
        have := List.mem_of_getElem? hz
        simpa using this
      subst hz2
      exact ⟨rfl, .inr ⟨t3, b, D, x, ns, kvs, rfl, s5.sqT ht3, hxn, s5.sqT hb, hl, s5 _ _ hD, fun H4 s7 => ⟨s7, rfl⟩⟩⟩
    · have ea : acc = [V.bl false] := by
        match acc, la, hacc with
        | [v], _, hacc => rw [hacc 0 v rfl]
      subst ea
      refine ⟨D', [false], rfl, SqL.of hl2, ?_⟩
      exact (iteT (k _ s6) : if true = true then _ else _)
end
end K01

set_option Elab.async false
set_option linter.all false
set_option maxRecDepth 100000
set_option maxHeartbeats 1000000
/-! written data; make_net, told of data or of a dict. -/
namespace K01
open PySem L2 PySem.KX StX LamX PyProof.Rows
/-- written data -/
def tDt (K : PySem.W.Frag) (d : PyData) : TE := fun _ H Q => ∀ v H', Same H H' → Dq K H' v d → Q v H'
def tDs (K : PySem.W.Frag) (ds : List PyData) : TA := fun _ H Q => ∀ vs H', Same H H' → DqAll K H' vs ds → Q vs H'
section
variable {X : Cx} {e : Expr} {es : List Expr} {d : PyData} {ds : List PyData} {pos : Pos}
theorem pd_nil : PA X [] (tDs X.K []) := ⟨fun pos pins s σ H Q I h => pa_nil.run pos pins s σ H Q I (h [] H (Same.refl H) .nil)⟩
theorem pd_cons (ha : PE X e (tDt X.K d)) (hr : PA X es (tDs X.K ds)) (hs : starEach (e :: es) X.env = (false, eval e X.env) :: starEach es X.env := by rfl) : PA X (e :: es) (tDs X.K (d :: ds)) :=
  ⟨fun pos pins s σ H Q I h => (pa_cons ha hr hs).run pos pins s σ H Q I (show tCons _ _ σ H Q from fun v H1 s1 hv vs H2 s2 hvs => h _ _ (s1.trans s2) (.cons (Dq.same s2 _ _ hv) hvs))⟩
theorem pd_tup {x1} (h : PA X es (tDs X.K ds)) (hl : ds.length ≤ 1000000) : PE X (.Tuple es x1 pos) (tDt X.K (.tuple ds)) :=
  (pe_tupS h).imp fun σ H Q q => fun vs H1 s1 hvs => ⟨by rw [hvs.length]; exact hl, fun p H' s2 n l => q _ _ (s1.trans s2) (.tup (SqT.of l) (DqAll.same s2 _ _ hvs))⟩
theorem pd_lst (h : PA X es (tDs X.K ds)) (hl : ds.length ≤ 1000000) : PE X (.List es pos) (tDt X.K (.list ds)) :=
  (pe_lstS h).imp fun σ H Q q => fun vs H1 s1 hvs => ⟨by rw [hvs.length]; exact hl, fun p H' s2 n l => q _ _ (s1.trans s2) (.lst (SqL.of l) (DqAll.same s2 _ _ hvs))⟩
theorem pd_int {i : Int} (h : PE X e (tC (.int i))) : PE X e (tDt X.K (.int i)) := h.imp fun σ H Q q => q _ _ (Same.refl H) (.int i)
theorem pd_str {x : Str} (h : PE X e (tC (.str x))) : PE X e (tDt X.K (.str x)) := h.imp fun σ H Q q => q _ _ (Same.refl H) (.str x)
theorem pd_bl {b : Bool} (h : PE X e (tC (.bl b))) : PE X e (tDt X.K (.bool b)) := h.imp fun σ H Q q => q _ _ (Same.refl H) (.bl b)
theorem pd_non (h : PE X e (tC .non)) : PE X e (tDt X.K .none) := h.imp fun σ H Q q => q _ _ (Same.refl H) .non
end
/-! a dict with one pair -/
def tDct (k j : Int) : TE := fun _ H Q => ∀ p H', Same H H' → H' p = some (.dK [(.inl k, .int j)]) → Q (.ref p) H'
theorem pe_dct {X : Cx} {e1 e2 : Expr} {pos : Pos} {k j : Int} (h1 : PE X e1 (tC (.int k))) (h2 : PE X e2 (tC (.int j))) : PE X (.Dict [some e1] [e2] pos) (tDct k j) :=
  (pe_disp (pps_cons h1 h2 pps_nil) rfl rfl (by simp) (by simp)).imp fun σ H Q q => fun p n =>
    ⟨upd_same, [(.inl k, .int j)], rfl, by simp, q p _ (by rw [upd_upd]; exact (Same.refl _).new n) (by rw [upd_upd]; exact upd_same)⟩
/-- a step with a dict in it -/
def DctStep (K : PySem.W.Frag) (H : Hp) (v : V) : Prop := ∃ (t3 b D : Addr) (x : Str) (ns : List Int) (kvs : List (Key × V)), v = .ref t3 ∧ SqT K H t3 [.str x, .ref b, .ref D] ∧ isNameD (.str x) = true ∧ SqT K H b (ns.map V.int) ∧ ns.length ≤ 60 ∧ H D = some (.dK kvs)
theorem DctStep.ext {K : PySem.W.Frag} {H H' : Hp} {v : V} (eN : ExtN H H') (h : DctStep K H v) : DctStep K H' v := by
  obtain ⟨t3, b, D, x, ns, kvs, rfl, h1, h2, h3, h4, h5⟩ := h
  exact ⟨t3, b, D, x, ns, kvs, rfl, sqT_keep (keptQ_extN eN) h1, h2, sqT_keep (keptQ_extN eN) h3, h4, eN _ _ h5 fun ps z => nomatch z⟩
def szD : PyData → Bool
  | .tuple [.str x, .tuple a, .tuple b] => decide (a.length ≤ 60) && (decide (b.length ≤ 60) && decide (x.length ≤ 1000))
  | _ => true
/-- data that is no step of a net of three places, small enough -/
def oddD (d : PyData) : Bool := smQ d && (szD d && (!canD d || !netD (makeD 3 [d])))
def OddV (K : PySem.W.Frag) (H : Hp) (v : V) : Prop := (∃ d, Dq K H v d ∧ oddD d = true) ∨ DctStep K H v
theorem OddV.ext {K : PySem.W.Frag} {H H' : Hp} {v : V} (eN : ExtN H H') (h : OddV K H v) : OddV K H' v := by
  rcases h with ⟨d, h1, h2⟩ | h
  · exact .inl ⟨d, Dq.keep (keptQ_extN eN) _ _ h1, h2⟩
  · exact .inr (h.ext eN)
def tOdd (K : PySem.W.Frag) : TE := fun _ H Q => ∀ v H', Same H H' → OddV K H' v → Q v H'
def tOdds (K : PySem.W.Frag) (n : Nat) : TA := fun _ H Q => ∀ vs H', Same H H' → vs.length = n → (∀ v ∈ vs, OddV K H' v) → Q vs H'
theorem same_ext {H H' : Hp} (s : Same H H') : ExtN H H' := ExtN.of fun b o e => s b o e
section
variable {X : Cx} {e e1 e2 e3 e4 : Expr} {es : List Expr} {d : PyData} {n : Nat} {pos : Pos}
theorem po_data (h : PE X e (tDt X.K d)) (ho : oddD d = true) : PE X e (tOdd X.K) := h.imp fun σ H Q q => fun v H' s hv => q v H' s (.inl ⟨d, hv, ho⟩)
theorem po_dct {x1} {p2 p3 : Pos} {x : Str} {a k j : Int} (h1 : PE X e1 (tC (.str x))) (hx : isNameD (.str x) = true) (h2 : PE X e2 (tC (.int a))) {x2} (h3 : PE X e3 (tC (.int k))) (h4 : PE X e4 (tC (.int j)))
    (hs : starEach [e1, .Tuple [e2] x2 p2, .Dict [some e3] [e4] p3] X.env = (false, eval e1 X.env) :: starEach [.Tuple [e2] x2 p2, .Dict [some e3] [e4] p3] X.env := by rfl)
    (hs2 : starEach [e2] X.env = (false, eval e2 X.env) :: starEach [] X.env := by rfl) :
    PE X (.Tuple [e1, .Tuple [e2] x2 p2, .Dict [some e3] [e4] p3] x1 pos) (tOdd X.K) :=
  (pe_tupS (pa_cons h1 (pa_cons (pe_tupS (pa_cons h2 pa_nil hs2)) (pa_cons (pe_dct h3 h4) pa_nil (by rfl)) (by rfl)) hs)).imp fun σ H Q q => by
    refine ⟨by simp, fun b H1 s1 n1 l1 => ?_⟩
    refine fun D H2 s2 l2 => ⟨by simp, fun t3 H3 s3 n3 l3 => ?_⟩
    exact q _ _ ((s1.trans s2).trans s3) (.inr ⟨t3, b, D, x, [a], _, rfl, SqT.of l3, hx, SqT.of ((s2.trans s3) _ _ l1), by simp, s3 _ _ l2⟩)
theorem pos_nil : PA X [] (tOdds X.K 0) := ⟨fun pos pins s σ H Q I h => pa_nil.run pos pins s σ H Q I (h [] H (Same.refl H) rfl fun v hv => nomatch hv)⟩
theorem pos_cons (ha : PE X e (tOdd X.K)) (hr : PA X es (tOdds X.K n)) (hs : starEach (e :: es) X.env = (false, eval e X.env) :: starEach es X.env := by rfl) : PA X (e :: es) (tOdds X.K (n + 1)) :=
  ⟨fun pos pins s σ H Q I h => (pa_cons ha hr hs).run pos pins s σ H Q I (show tCons _ _ σ H Q from fun v H1 s1 hv vs H2 s2 hl hvs => h _ _ (s1.trans s2) (by rw [List.length_cons, hl]) fun u hu => by
    rcases List.mem_cons.mp hu with rfl | hu
    · exact hv.ext (same_ext s2)
    · exact hvs u hu)⟩
/-- [e, ..] of such -/
def tOddL (K : PySem.W.Frag) (n : Nat) : TE := fun _ H Q => ∀ a vs H', Same H H' → H a = none → H' a = some (.lst vs) → vs.length = n → (∀ v ∈ vs, OddV K H' v) → Q (.ref a) H'
theorem pe_oddL (h : PA X es (tOdds X.K n)) (hn : n ≤ 1000000) : PE X (.List es pos) (tOddL X.K n) :=
  (pe_lstS h).imp fun σ H Q q => fun vs H1 s1 hl hvs => ⟨by omega, fun a H' s2 n2 l2 => q a vs H' (s1.trans s2) (s1.free n2) l2 hl fun v hv => (hvs v hv).ext (same_ext s2)⟩
end
/-! make_net, told of data or of a dict -/
section
variable {P : Program} {w : World} {K : PySem.W.Frag} {mg : Str → Option Value} {base : Heap}
def spMkRX (K : PySem.W.Frag) (cI : Addr) : Sp := fun vs H Q E => ∃ ws rest, vs = ws ++ rest ∧ ws.length = 1 ∧ rest.length ≤ sizeLine ∧ ∀ p, H p = none → spMkX K cI (ws ++ [V.ref p]) (upd H p (.tup rest)) Q E
def spMk2 (K : PySem.W.Frag) (cN cI : Addr) : Sp := fun vs H Q E => spMkR K cN cI vs H Q E ∨ spMkRX K cI vs H Q E
theorem fnR_or {CX : CXT} {k : Nat} {f : Addr} {sp1 sp2 : Sp} (F1 : FnRG P w K mg base CX k f sp1) (F2 : FnRG P w K mg base CX k f sp2) : FnRG P w K mg base CX k f (fun vs H Q E => sp1 vs H Q E ∨ sp2 vs H Q E) :=
  fun A outer s H us vs Q E hr e r q => q.elim (F1 A outer s H us vs Q E hr e r) (F2 A outer s H us vs Q E hr e r)
theorem fnR_imp {CX : CXT} {k : Nat} {f : Addr} {sp1 sp2 : Sp} (F1 : FnRG P w K mg base CX k f sp1) (i : ∀ vs H Q E, sp2 vs H Q E → sp1 vs H Q E) : FnRG P w K mg base CX k f sp2 :=
  fun A outer s H us vs Q E hr e r q => F1 A outer s H us vs Q E hr e r (i _ _ _ _ q)
theorem OwnR.one {CX : CXT} {x : Str} {k : Nat} {cN cI : Addr} (O : OwnR P w K mg base CX x k (spMk2 K cN cI)) : OwnR P w K mg base CX x k (spMkR K cN cI) := by
  obtain ⟨f, F, h1, h2⟩ := O.ex
  exact ⟨f, fnR_imp F fun _ _ _ _ q => .inl q, h1, h2⟩
theorem odd_met {c : MetC} {H : Hp} {Q : VK} {v : V} (h : OddV K H v) (q : ∀ (a : Addr) (H2 : Hp), Same H H2 → H a = none → H2 a = some (.lst [.str "net"]) → Q (.ref a) H2) : spMk2 K c.cN c.cI [.int 3, v] H (metR Q) (metE K c Q) := by
  have net : ∀ H', Same H H' → metE K c Q (.ref c.cI) none H' := fun H' s => .inr (.inr ⟨"net", rfl, .inl ⟨rfl, rfl⟩, fun p H2 s2 n2 l2 => q p H2 (s.trans s2) (s.free n2) l2⟩)
  rcases h with ⟨d, hd, ho⟩ | ⟨t3, b, D, x, ns, kvs, rfl, h1, h2, h3, h4, h5⟩
  · simp only [oddD, Bool.and_eq_true, Bool.or_eq_true, Bool.not_eq_true'] at ho
    obtain ⟨h1, h2, h3⟩ := ho
    refine .inl (mk_use (v := .int 3) (dp := .int 3) (ds := [d]) ⟨.int 3, rfl⟩ (by simp [PyData.depth]) (.cons hd .nil) ⟨by simp, by simp only [smQAll, h1, Bool.and_true], fun i x ns ms e => ?_, fun c1 => absurd c1 (by decide), fun _ _ H' s => net H' s, fun n e _ c2 c3 H' s => net H' s, fun n e _ c2 c3 => ?_⟩)
    · match i, e with
      | 0, e =>
        cases (Option.some.inj e : d = _)
        simp only [szD, tupI, Bool.and_eq_true, decide_eq_true_eq, List.length_map] at h2
        exact ⟨h2.1, h2.2.1, h2.2.2⟩
      | i + 1, e => simp at e
    · cases e
      have hc : canD d = true := by simpa using c2
      rcases h3 with h3 | h3
      · rw [hc] at h3; cases h3
      · rw [h3] at c3; cases c3
  · refine .inr ⟨[.int 3], [.ref t3], rfl, rfl, by rw [sizeLine_eq]; simp, fun p np => ?_⟩
    have s : Same H (upd H p (.tup [.ref t3])) := (Same.refl _).new np
    exact ⟨p, t3, b, D, x, ns, kvs, rfl, SqT.of upd_same, s.sqT h1, h2, s.sqT h3, h4, s _ _ h5, fun H' s' => net H' (s.trans s')⟩
end
end K01

set_option Elab.async false
set_option linter.all false
set_option maxRecDepth 100000
set_option maxHeartbeats 2000000
namespace K01
open PySem L2 PySem.KX StX LamX PyProof.Rows
section
variable {P : Program} {w : World} {K : PySem.W.Frag} {mg : Str → Option Value} {base : Heap} {f : Addr} {cdv : Value} {A : Around} {outer : List Env} {s : Shared} {H0 : Hp} {E0' : XK} {c : MetC} {T : List (Addr × Str)}
theorem lr_odds {H : Hp} {D : Ends} {g : Addr} {t2 : V}
    (q : ∀ (O : Addr) (vs : List V) (H' : Hp), Same H H' → H' O = some (.lst vs) → vs.length = 10 → (∀ v ∈ vs, OddV K H' v) → ∃ t, PSs (X_lr P w K mg base f cdv A outer s H0 E0') ((defBody s_law_limits_right).drop 8) t ∧ t D [some (.str abc), some (.ref g), some t2, some (.ref O), none, none, none, none, none, none] H') :
    ∃ t, PSs (X_lr P w K mg base f cdv A outer s H0 E0') ((defBody s_law_limits_right).drop 6) t ∧ t D [some (.str abc), some (.ref g), some t2, none, none, none, none, none, none, none] H := by
  have nd := sc_law_limits_right.nd
  refine ⟨_, (pss_cons (ps_set (i := 3) nd rfl (by first | exact Or.inl rfl | exact Or.inr rfl) (pe_oddL (pos_cons (po_data (pd_tup (pd_cons (pd_str pe_str) (pd_cons (pd_lst (pd_cons (pd_int pe_int) pd_nil) (by simp)) (pd_cons (pd_tup (pd_cons (pd_int pe_int) pd_nil) (by simp)) pd_nil))) (by simp)) (by decide +kernel)) (pos_cons (po_data (pd_tup (pd_cons (pd_str pe_str) (pd_cons (pd_tup (pd_cons (pd_int pe_int) (pd_cons (pd_bl pe_bl) pd_nil)) (by simp)) (pd_cons (pd_tup (pd_cons (pd_int pe_int) pd_nil) (by simp)) pd_nil))) (by simp)) (by decide +kernel)) (pos_cons (po_data (pd_tup (pd_cons (pd_str pe_str) (pd_cons (pd_tup (pd_cons (pd_int pe_int) pd_nil) (by simp)) (pd_cons (pd_tup (pd_cons (pd_int pe_int) (pd_cons (pd_bl pe_bl) pd_nil)) (by simp)) pd_nil))) (by simp)) (by decide +kernel)) (pos_cons (po_dct pe_str (by decide +kernel) pe_int pe_int pe_int) (pos_cons (po_data (pd_tup (pd_cons (pd_str pe_str) (pd_cons (pd_tup (pd_cons (pd_int pe_int) pd_nil) (by simp)) (pd_cons (pd_str pe_str) pd_nil))) (by simp)) (by decide +kernel)) pos_nil))))) (by simp)))
      (pss_cons (ps_set (i := 3) nd rfl (by first | exact Or.inl rfl | exact Or.inr rfl) (pe_op op_addS (av 3) (pe_oddL (pos_cons (po_data (pd_lst (pd_cons (pd_str pe_str) (pd_cons (pd_tup (pd_cons (pd_int pe_int) pd_nil) (by simp)) (pd_cons (pd_tup (pd_cons (pd_int pe_int) pd_nil) (by simp)) pd_nil))) (by simp)) (by decide +kernel)) (pos_cons (po_data (pd_tup (pd_cons (pd_str pe_str) (pd_cons (pd_tup (pd_cons (pd_int pe_int) (pd_cons (pd_int pe_int) pd_nil)) (by simp)) (pd_cons (pd_tup (pd_cons (pd_int pe_int) pd_nil) (by simp)) pd_nil))) (by simp)) (by decide +kernel)) (pos_cons (po_data (pd_tup (pd_cons (pd_str pe_str) (pd_cons (pd_tup pd_nil (by simp)) (pd_cons (pd_tup (pd_cons (pd_int pe_int) pd_nil) (by simp)) pd_nil))) (by simp)) (by decide +kernel)) (pos_cons (po_data (pd_tup (pd_cons (pd_str pe_str) (pd_cons (pd_tup (pd_cons (pd_int pe_int) pd_nil) (by simp)) (pd_cons (pd_tup (pd_cons (pd_int pe_int) (pd_cons (pd_non pe_non) pd_nil)) (by simp)) pd_nil))) (by simp)) (by decide +kernel)) (pos_cons (po_data (pd_tup (pd_cons (pd_str pe_str) (pd_cons (pd_tup (pd_cons (pd_int pe_int) pd_nil) (by simp)) (pd_cons (pd_tup (pd_cons (pd_int pe_int) pd_nil) (by simp)) (pd_cons (pd_tup pd_nil (by simp)) pd_nil)))) (by simp)) (by decide +kernel)) pos_nil))))) (by simp))))
      pss_any)), ?_⟩
  intro O1 vs1 H1 s1 n1 l1 e1 o1
  refine fun O2 vs2 H2 s2 n2 l2 e2 o2 => ?_
  refine .inl ⟨vs1, vs2, s2 _ _ l1, l2, by omega, fun p H3 s3 n3 l3 => ?_⟩
  refine q p _ H3 ((s1.trans s2).trans s3) l3 (by rw [List.length_append]; omega) fun v hv => ?_
  rcases List.mem_append.mp hv with z | z
  · exact (o1 v z).ext (same_ext (s2.trans s3))
  · exact (o2 v z).ext (same_ext s3)
def netD1 : PyData := .list [.str "net"]
def tenD : PyData := .list (List.replicate 10 netD1)
theorem ten_dq {H : Hp} {a : Addr} {ac : List V} (ha : H a = some (.lst ac)) (hl : ac.length = 10) (h : ∀ v ∈ ac, ∃ b, v = .ref b ∧ H b = some (.lst [.str "net"])) : Dp K H (.ref a) tenD := by
  refine .lst (SqL.of ha) ?_
  rw [← hl]
  clear hl ha
  induction ac with
  | nil => exact .nil
  | cons v r ih =>
    obtain ⟨b, rfl, hb⟩ := h v List.mem_cons_self
    exact .cons (.lst (SqL.of hb) (.cons (.str _) .nil)) (ih fun u hu => h u (List.mem_cons_of_mem _ hu))
theorem lr_odd (M : MetK K mg c) (LK : LamK base mg cdv T qLr) (hr : RoomG 17 (A.deeper (envOfC "_law_limits_right" (defScope s_law_limits_right) s.heap.objs.size f cdv))) (Om : OwnR P w K mg base (L2.CX P w) "make_net" 14 (spMk2 K c.cN c.cI)) {H : Hp} {D : Ends} {g O : Addr} {t2 : V} {vs : List V} (hO : H O = some (.lst vs)) (hl : vs.length = 10) (ho : ∀ v ∈ vs, OddV K H v) (tb : Tabs T H)
    (q : ∀ (H' : Hp), ExtN H H' → Tabs T H' → ∃ t, PSs (X_lr P w K mg base f cdv A outer s H0 E0') ((defBody s_law_limits_right).drop 9) t ∧ t D [some (.str abc), some (.ref g), some t2, some (.ref O), none, none, none, none, none, none] H') :
    ∃ t, PSs (X_lr P w K mg base f cdv A outer s H0 E0') ((defBody s_law_limits_right).drop 8) t ∧ t D [some (.str abc), some (.ref g), some t2, some (.ref O), none, none, none, none, none, none] H := by
  have nd := sc_law_limits_right.nd
  obtain ⟨fm, Fm, Gm, Km⟩ := Om.ex
  refine ⟨_, (pss_cons (ps_if (pt_cmpA (op_neA hr.units64) (pe_lc (own := [("step", 9)]) (by rfl) nd (pi_list (av 3)) (blkOk_by (N := N_lr) (sc := defScope s_law_limits_right) (by decide +kernel)) (fun _ _ _ _ _ => (pg_name (i := 9) nd rfl (by first | exact Or.inl rfl | exact Or.inr rfl))) (fun _ _ _ _ _ => pts_nil)
      (fun s1 H1 C cl fp => (show PE _ _ (tLam T (TTmet K c) fun E => fun σ H Q => tCons (tC (.int 3)) (tCons (aVar 9) tNil) σ H fun vs H1 => spMk2 K c.cN c.cI vs H1 Q E) from
        pe_met (X := Cx.blk (X_lr P w K mg base f cdv A outer s H0 E0') s1 H1 _ (compEnvC _ cl C _) fp) M LK hr (lamS_by (by rfl)) rfl (fun _ _ _ _ _ => rfl) (fun A outer s H E f c' hr2 => pe_callRG (X := lamCx (Cx.blk (X_lr P w K mg base _ _ _ _ _ H0 E0') s1 H1 _ (compEnvC _ cl C _) fp) A outer s H E _ f c') Fm (hr2.mono (by decide)) Km (by rfl) Gm (lamPass (X := Cx.blk (X_lr P w K mg base _ _ _ _ _ H0 E0') s1 H1 _ (compEnvC _ cl C _) fp)) (pa_cons pe_int (pa_cons (av 9) pa_nil))))))
      (pe_op op_repS (pe_lstS (pa_cons (pe_lstS (pa_cons pe_str pa_nil)) pa_nil)) pe_int)) (pss_one (ps_ret pe_bl)) pss_nil)
      pss_any), ?_⟩
  refine ⟨O, rfl, ⟨_, SqL.of hO⟩, fun R hR => ?_⟩
  refine lc_it (walk_list (xs := vs)) (fun t H' => ∃ ac : List V, H' R = some (.lst ac) ∧ ac.length = t ∧ (∀ v ∈ ac, ∃ b, v = .ref b ∧ H' b = some (.lst [.str "net"])) ∧ ExtN H H' ∧ Tabs T H')
    ⟨[], upd_same, rfl, (fun v hv => nomatch hv), same_ext ((Same.refl _).new hR), tabs_same tb ((Same.refl _).new hR)⟩ (fun t H' _ ⟨_, _, _, _, eN, _⟩ => sqL_keep (keptQ_extN eN) (SqL.of hO)) ?_ ?_
  · rintro t v H2 H3 ht ⟨ac, hR2, hal, hac, eN, t2⟩ ⟨rfl, hv⟩
    have hvm := List.mem_of_getElem? hv
    have hov : OddV K H3 v := (ho v hvm).ext eN
    refine ⟨rfl, ?_⟩
    refine ⟨t2, fun H4 e4 t4 => ?_⟩
    refine odd_met (hov.ext e4) fun a H5 s5 n5 l5 => ?_
    have hR4 : H4 R = some (.lst ac) := e4 _ _ hR2 fun ps z => nomatch z
    have hR5 := s5 _ _ hR4
    have ne : a ≠ R := fun z => by rw [z, hR4] at n5; cases n5
    refine ⟨ac, hR5, by rw [sizeLine_eq]; omega, ac ++ [.ref a], upd_same, by simp [hal], fun u hu => ?_, fun b o e nt => ?_, ?_⟩
    · rcases List.mem_append.mp hu with z | z
      · obtain ⟨b, rfl, hb⟩ := hac u z
        have hb4 : H4 b = some (.lst [.str "net"]) := e4 _ _ hb fun ps z => nomatch z
        have hb5 := s5 _ _ hb4
        by_cases hbR : b = R
        · exfalso
          rw [hbR, hR2] at hb
          injection hb with hb
          injection hb with hb
          rw [hb] at z
          have := List.mem_singleton.mp z
          cases this
        · exact ⟨b, rfl, by rw [upd_ne hbR]; exact hb5⟩
      · rw [List.mem_singleton.mp z]
        exact ⟨a, rfl, by rw [upd_ne ne]; exact l5⟩
    · have hb := s5 _ _ (e4 _ _ (eN _ _ e nt) nt)
      rw [upd_ne (ne_of_none e hR)]
      exact hb
    · exact tabs_upd (tabs_same t4 s5) hR5
  · rintro H2 ⟨ac, hR2, hal, hac, eN, t2⟩
    refine ⟨by simp, fun b1 H3 s3 n3 l3 => ?_⟩
    refine ⟨by simp, fun b2 H4 s4 n4 l4 => ?_⟩
    refine ⟨b2, 10, _, rfl, rfl, l4, by decide, by decide, by simp, fun b3 H5 s5 n5 l5 => ?_⟩
    have s35 := s4.trans s5
    have s25 := s3.trans s35
    have ha : Dp K H5 (.ref R) tenD := ten_dq (s25 _ _ hR2) (by omega) fun v hv => by
      obtain ⟨b, rfl, hb⟩ := hac v hv
      exact ⟨b, rfl, s25 _ _ hb⟩
    have hb : Dp K H5 (.ref b3) tenD := ten_dq l5 (by simp) fun v hv => by
      have : v = .ref b1 := by
        simpa using hv
      exact ⟨b1, this, s35 _ _ l3⟩
    refine ⟨tenD, tenD, ha, hb, by decide +kernel, by decide +kernel, ?_⟩
    refine ite2 (fun z => absurd z (by decide +kernel)) (fun _ => ?_)
    exact q H5 (eN.trans (same_ext s25)) (tabs_same t2 s25)
end
end K01

set_option Elab.async false
set_option linter.all false
set_option maxRecDepth 100000
set_option maxHeartbeats 2000000
namespace K01
open PySem L2 PySem.KX StX LamX PyProof.Rows
section
variable {P : Program} {w : World} {K : PySem.W.Frag} {mg : Str → Option Value} {base : Heap} {c : MetC} {T : List (Addr × Str)}
theorem TupR.ext {H H' : Hp} {a : Addr} {rows : List RowN} (eN : ExtN H H') (h : TupR K H a rows) : TupR K H' a rows := by
  obtain ⟨xs, h1, h2⟩ := h
  exact ⟨xs, sqT_keep (keptQ_extN eN) h1, DqAll.keep (keptQ_extN eN) _ _ h2⟩
theorem ok_limits_right {f : Addr} {fd : FuncData} {cv : Value} (TA : TxtA mg) (TX : TxtX mg) (M : MetK K mg c) (LK : LamK base mg cv T qLr)
    (F : ∃ (oc : Value) (od : Option Addr) (kV doc pm : Value) (an : Option Addr) (ct : Value) (osl : Array (Option Value)), fd = PySem.W.fnOf "_law_limits_right" "_law_limits_right" (defArgs s_law_limits_right) (defBody s_law_limits_right) (defScope s_law_limits_right) .none kV doc pm an cv ct ∧ K.lookup f = some ⟨oc, od, .func fd, osl⟩ ∧ PySem.W.codeIn K cv "_law_limits_right" = true)
    (O_is : Own P w K mg base CX0 "is_net" 5 ["value"] (spN K netD)) (Om : OwnR P w K mg base (L2.CX P w) "make_net" 14 (spMk2 K c.cN c.cI)) :
    FnG P w K mg base CX0 18 f fd [] (spLimits T) := by
  refine okGL F sc_law_limits_right (fun vs H Q E h => ?_) (fun A outer s H vs Q E hr h => ?_)
  · obtain ⟨rfl, _⟩ := h
    rfl
  · obtain ⟨rfl, tb, k⟩ := h
    refine lr_forty TA TX (o1 := none) (o2 := none) (o3 := none) (o4 := none) (o5 := none) (o6 := none) (o7 := none) (o8 := none) (o9 := none) fun g H1 s1 hg1 => ?_
    refine lr_told TA hr O_is hg1 fun t2 H2 s2 => ?_
    refine lr_odds fun O vs H3 s3 l3 e3 o3 => ?_
    have s03 := (s1.trans s2).trans s3
    refine lr_odd M LK hr Om l3 e3 o3 (tabs_same tb s03) fun H4 e4 t4 => ?_
    exact lr_made TA M LK hr Om.one ((hg1.same (s2.trans s3)).ext e4) t4 k
end
end K01

set_option Elab.async false
set_option linter.all false
set_option maxRecDepth 100000
set_option maxHeartbeats 4000000
namespace K01
open PySem L2 PySem.KX StX LamX PyProof.Rows
def noneB (K : PySem.W.Frag) (ns : List Str) : Bool := ns.all fun n => decide (PySem.W.nsIn K mainGlobals n = some none)
theorem noneB_ok {K : PySem.W.Frag} {ns : List Str} (h : noneB K ns = true) {n : Str} (m : n ∈ ns) : PySem.W.nsIn K mainGlobals n = some none := of_decide_eq_true (List.all_eq_true.mp h n m)
def msgB (K : PySem.W.Frag) (C : Addr) : Bool := PySem.W.excIn K C bmVE "ValueError.__new__" && (PySem.W.keepIn K (.ref C) && (xiB K C && decide (PySem.W.findIn K (.ref C) "__str__" = some (some (.builtin "BaseException.__str__")))))
theorem msgB_ok {K : PySem.W.Frag} {mg : Str → Option Value} {x : Str} {C : Addr} (h : msgB K C = true) (g : mg x = some (.ref C)) : ErrM K mg x C "ValueError.__new__" bmVE := by
  obtain ⟨h1, h⟩ := Bool.and_eq_true_iff.mp h
  obtain ⟨h2, h⟩ := Bool.and_eq_true_iff.mp h
  obtain ⟨h3, h4⟩ := Bool.and_eq_true_iff.mp h
  exact ⟨h1, g, h2, xiB_ok h3, of_decide_eq_true h4⟩
def valB (K : PySem.W.Frag) (C : Addr) (f : Str) : Bool := decide (PySem.W.findIn K (.ref C) "__setattr__" = some (some (.builtin "object.__setattr__"))) && (decide (PySem.W.subIn K (.ref C) (.type "BaseException") = some true) && (decide (PySem.W.typeIn K (.ref C) = some (.type "type")) &&
  (PySem.W.keepIn K (.ref C) && (xiB K C && (xfB K C && decide (PySem.W.findIn K (.ref C) f = some none))))))
structure ValX (K : PySem.W.Frag) (C : Addr) (f : Str) : Prop where
  sa : PySem.W.findIn K (.ref C) "__setattr__" = some (some (.builtin "object.__setattr__"))
  ex : PySem.W.subIn K (.ref C) (.type "BaseException") = some true
  ty : PySem.W.typeIn K (.ref C) = some (.type "type")
  k : PySem.W.keepIn K (.ref C) = true
  xi : XI K C
  xf : XfC K C
  no : PySem.W.findIn K (.ref C) f = some none
theorem valB_ok {K : PySem.W.Frag} {C : Addr} {f : Str} (h : valB K C f = true) : ValX K C f := by
  obtain ⟨h1, h⟩ := Bool.and_eq_true_iff.mp h
  obtain ⟨h2, h⟩ := Bool.and_eq_true_iff.mp h
  obtain ⟨h3, h⟩ := Bool.and_eq_true_iff.mp h
  obtain ⟨h4, h⟩ := Bool.and_eq_true_iff.mp h
  obtain ⟨h5, h⟩ := Bool.and_eq_true_iff.mp h
  obtain ⟨h6, h7⟩ := Bool.and_eq_true_iff.mp h
  exact ⟨of_decide_eq_true h1, of_decide_eq_true h2, of_decide_eq_true h3, h4, xiB_ok h5, xfB_ok h6, of_decide_eq_true h7⟩
theorem own_copied {P : Program} {w : World} {K : PySem.W.Frag} {mg : Str → Option Value} {base : Heap} {f : Addr} {fd : FuncData} (F : Fun K "copied" "copied" scopied f fd) (T : TxtC mg) (hm : mg "copied" = some (.ref f)) (hb : Binds K fd ["value"] []) :
    ∀ n, OwnK P w K mg base CX0 "copied" (n + 1) ["value"] (spCop K n)
  | 0 => ⟨f, fd, ok_copied_step F T 0 (fun m e => nomatch e), hm, F.kp, hb⟩
  | n + 1 => ⟨f, fd, ok_copied_step F T (n + 1) (fun m e => by cases e; exact own_copied F T hm hb n), hm, F.kp, hb⟩
def tabNames : List Str := ["_law_makes_right", "_law_steps_right", "_law_limits_right"]
theorem all_mk {l : PySem.W.OpenLaw} {w : World} {K : PySem.W.Frag} {h : Heap} {mg : Str → Option Value} {fa c0 c1 c2 c3 c4 f0 f1 f2 f3 f4 f5 f6 f7 f8 f9 f10 f11 f12 f13 f14 f15 f16 f17 f18 f19 f20 f21 f22 f23 f24 f25 f26 f27 f28 f29 f30 f31 f32 f33 f34 f35 f36 f37 cM PM cS PS cL PL : Addr} {tkL tkP tkT : Tok} (X : K.In h) (G : h.Ns mainGlobals mg) (hfa : mg "law" = some (.ref fa))
    {od0 an0 : Option Addr} {sl0 : Array (Option Value)} {oc0 kV0 dc0 pm0 cd0 ct0 : Value}
    {od1 an1 : Option Addr} {sl1 : Array (Option Value)} {oc1 kV1 dc1 pm1 cd1 ct1 : Value}
    {od2 an2 : Option Addr} {sl2 : Array (Option Value)} {oc2 kV2 dc2 pm2 cd2 ct2 : Value}
    {od3 an3 : Option Addr} {sl3 : Array (Option Value)} {oc3 kV3 dc3 pm3 cd3 ct3 : Value}
    {od4 an4 : Option Addr} {sl4 : Array (Option Value)} {oc4 kV4 dc4 pm4 cd4 ct4 : Value}
    {od5 an5 : Option Addr} {sl5 : Array (Option Value)} {oc5 kV5 dc5 pm5 cd5 ct5 : Value}
    {od6 an6 : Option Addr} {sl6 : Array (Option Value)} {oc6 kV6 dc6 pm6 cd6 ct6 : Value}
    {od7 an7 : Option Addr} {sl7 : Array (Option Value)} {oc7 kV7 dc7 pm7 cd7 ct7 : Value}
    {od8 an8 : Option Addr} {sl8 : Array (Option Value)} {oc8 kV8 dc8 pm8 cd8 ct8 : Value}
    {od9 an9 : Option Addr} {sl9 : Array (Option Value)} {oc9 kV9 dc9 pm9 cd9 ct9 : Value}
    {od10 an10 : Option Addr} {sl10 : Array (Option Value)} {oc10 kV10 dc10 pm10 cd10 ct10 : Value}
    {od11 an11 : Option Addr} {sl11 : Array (Option Value)} {oc11 kV11 dc11 pm11 cd11 ct11 : Value}
    {od12 an12 : Option Addr} {sl12 : Array (Option Value)} {oc12 kV12 dc12 pm12 cd12 ct12 : Value}
    {od13 an13 : Option Addr} {sl13 : Array (Option Value)} {oc13 kV13 dc13 pm13 cd13 ct13 : Value}
    {od14 an14 : Option Addr} {sl14 : Array (Option Value)} {oc14 kV14 dc14 pm14 cd14 ct14 : Value}
    {od15 an15 : Option Addr} {sl15 : Array (Option Value)} {oc15 kV15 dc15 pm15 cd15 ct15 : Value}
    {od16 an16 : Option Addr} {sl16 : Array (Option Value)} {oc16 kV16 dc16 pm16 cd16 ct16 : Value}
    {od17 an17 : Option Addr} {sl17 : Array (Option Value)} {oc17 kV17 dc17 pm17 cd17 ct17 : Value}
    {od18 an18 : Option Addr} {sl18 : Array (Option Value)} {oc18 kV18 dc18 pm18 cd18 ct18 : Value}
    {od19 an19 : Option Addr} {sl19 : Array (Option Value)} {oc19 kV19 dc19 pm19 cd19 ct19 : Value}
    {od20 an20 : Option Addr} {sl20 : Array (Option Value)} {oc20 kV20 dc20 pm20 cd20 ct20 : Value}
    {od21 an21 : Option Addr} {sl21 : Array (Option Value)} {oc21 kV21 dc21 pm21 cd21 ct21 : Value}
    {od22 an22 : Option Addr} {sl22 : Array (Option Value)} {oc22 kV22 dc22 pm22 cd22 ct22 : Value}
    {od23 an23 : Option Addr} {sl23 : Array (Option Value)} {oc23 kV23 dc23 pm23 cd23 ct23 : Value}
    {od24 an24 : Option Addr} {sl24 : Array (Option Value)} {oc24 kV24 dc24 pm24 cd24 ct24 : Value}
    {od25 an25 : Option Addr} {sl25 : Array (Option Value)} {oc25 kV25 dc25 pm25 cd25 ct25 : Value}
    {od26 an26 : Option Addr} {sl26 : Array (Option Value)} {oc26 kV26 dc26 pm26 cd26 ct26 : Value}
    {od27 an27 : Option Addr} {sl27 : Array (Option Value)} {oc27 kV27 dc27 pm27 cd27 ct27 : Value}
    {od28 an28 : Option Addr} {sl28 : Array (Option Value)} {oc28 kV28 dc28 pm28 cd28 ct28 : Value}
    {od29 an29 : Option Addr} {sl29 : Array (Option Value)} {oc29 kV29 dc29 pm29 cd29 ct29 : Value}
    {od30 an30 : Option Addr} {sl30 : Array (Option Value)} {oc30 kV30 dc30 pm30 cd30 ct30 : Value}
    {od31 an31 : Option Addr} {sl31 : Array (Option Value)} {oc31 kV31 dc31 pm31 cd31 ct31 : Value}
    {od32 an32 : Option Addr} {sl32 : Array (Option Value)} {oc32 kV32 dc32 pm32 ct32 : Value}
    {od33 an33 : Option Addr} {sl33 : Array (Option Value)} {oc33 kV33 dc33 pm33 ct33 : Value}
    {od34 an34 : Option Addr} {sl34 : Array (Option Value)} {oc34 kV34 dc34 pm34 ct34 : Value}
    {od35 an35 : Option Addr} {sl35 : Array (Option Value)} {oc35 kV35 dc35 pm35 cd35 ct35 : Value}
    {od36 an36 : Option Addr} {sl36 : Array (Option Value)} {oc36 kV36 dc36 pm36 cd36 ct36 : Value}
    {od37 an37 : Option Addr} {sl37 : Array (Option Value)} {oc37 kV37 dc37 pm37 cd37 ct37 : Value}
    {nm2 q2 : Str} {N2 : Addr} {bs2 : List Value} {sn2 : List Str} {sub2 : List Value} {ab2 : Bool} {col2 : Option Bool} {dd2 : Option Addr} {m02 m12 m22 m32 m52 : Option Value}
    {nm3 q3 : Str} {N3 : Addr} {bs3 : List Value} {sn3 : List Str} {sub3 : List Value} {ab3 : Bool} {col3 : Option Bool} {dd3 : Option Addr} {m03 m13 m23 m33 m53 : Option Value}
    {ocTM : Value} {odTM : Option Addr} {vsM : Array Value} {oslTM : Array (Option Value)}
    {ocTS : Value} {odTS : Option Addr} {vsS : Array Value} {oslTS : Array (Option Value)}
    {ocTL : Value} {odTL : Option Addr} {vsL : Array Value} {oslTL : Array (Option Value)}
    (aC0 : PySem.W.nsIn K mainGlobals "InvalidNet" = some (some (.ref c0)))
    (aC1 : PySem.W.nsIn K mainGlobals "InvalidWorkflow" = some (some (.ref c1)))
    (aC2 : PySem.W.nsIn K mainGlobals "UnknownStep" = some (some (.ref c2)))
    (aC3 : PySem.W.nsIn K mainGlobals "InvalidNumber" = some (some (.ref c3)))
    (aC4 : PySem.W.nsIn K mainGlobals "FlowError" = some (some (.ref c4)))
    (a0 : PySem.W.nsIn K mainGlobals "copied" = some (some (.ref f0))) (l0 : K.lookup f0 = some ⟨oc0, od0, .func (PySem.W.fnOf "copied" "copied" (defArgs scopied) (defBody scopied) (defScope scopied) .none kV0 dc0 pm0 an0 cd0 ct0), sl0⟩) (d0 : PySem.W.codeIn K cd0 "copied" = true) (k0 : PySem.W.keepIn K (.ref f0) = true)
    (a1 : PySem.W.nsIn K mainGlobals "is_integer" = some (some (.ref f1))) (l1 : K.lookup f1 = some ⟨oc1, od1, .func (PySem.W.fnOf "is_integer" "is_integer" (defArgs sis_integer) (defBody sis_integer) (defScope sis_integer) .none kV1 dc1 pm1 an1 cd1 ct1), sl1⟩) (d1 : PySem.W.codeIn K cd1 "is_integer" = true) (k1 : PySem.W.keepIn K (.ref f1) = true)
    (a2 : PySem.W.nsIn K mainGlobals "is_integer_within" = some (some (.ref f2))) (l2 : K.lookup f2 = some ⟨oc2, od2, .func (PySem.W.fnOf "is_integer_within" "is_integer_within" (defArgs sis_integer_within) (defBody sis_integer_within) (defScope sis_integer_within) .none kV2 dc2 pm2 an2 cd2 ct2), sl2⟩) (d2 : PySem.W.codeIn K cd2 "is_integer_within" = true) (k2 : PySem.W.keepIn K (.ref f2) = true)
    (a3 : PySem.W.nsIn K mainGlobals "are_integers" = some (some (.ref f3))) (l3 : K.lookup f3 = some ⟨oc3, od3, .func (PySem.W.fnOf "are_integers" "are_integers" (defArgs sare_integers) (defBody sare_integers) (defScope sare_integers) .none kV3 dc3 pm3 an3 cd3 ct3), sl3⟩) (d3 : PySem.W.codeIn K cd3 "are_integers" = true) (k3 : PySem.W.keepIn K (.ref f3) = true)
    (a4 : PySem.W.nsIn K mainGlobals "is_name" = some (some (.ref f4))) (l4 : K.lookup f4 = some ⟨oc4, od4, .func (PySem.W.fnOf "is_name" "is_name" (defArgs sis_name) (defBody sis_name) (defScope sis_name) .none kV4 dc4 pm4 an4 cd4 ct4), sl4⟩) (d4 : PySem.W.codeIn K cd4 "is_name" = true) (k4 : PySem.W.keepIn K (.ref f4) = true)
    (a5 : PySem.W.nsIn K mainGlobals "ascends" = some (some (.ref f5))) (l5 : K.lookup f5 = some ⟨oc5, od5, .func (PySem.W.fnOf "ascends" "ascends" (defArgs sascends) (defBody sascends) (defScope sascends) .none kV5 dc5 pm5 an5 cd5 ct5), sl5⟩) (d5 : PySem.W.codeIn K cd5 "ascends" = true) (k5 : PySem.W.keepIn K (.ref f5) = true)
    (a6 : PySem.W.nsIn K mainGlobals "is_net" = some (some (.ref f6))) (l6 : K.lookup f6 = some ⟨oc6, od6, .func (PySem.W.fnOf "is_net" "is_net" (defArgs sis_net) (defBody sis_net) (defScope sis_net) .none kV6 dc6 pm6 an6 cd6 ct6), sl6⟩) (d6 : PySem.W.codeIn K cd6 "is_net" = true) (k6 : PySem.W.keepIn K (.ref f6) = true)
    (a7 : PySem.W.nsIn K mainGlobals "make_net" = some (some (.ref f7))) (l7 : K.lookup f7 = some ⟨oc7, od7, .func (PySem.W.fnOf "make_net" "make_net" (defArgs smake_net) (defBody smake_net) (defScope smake_net) .none kV7 dc7 pm7 an7 cd7 ct7), sl7⟩) (d7 : PySem.W.codeIn K cd7 "make_net" = true) (k7 : PySem.W.keepIn K (.ref f7) = true)
    (a8 : PySem.W.nsIn K mainGlobals "step_names" = some (some (.ref f8))) (l8 : K.lookup f8 = some ⟨oc8, od8, .func (PySem.W.fnOf "step_names" "step_names" (defArgs sstep_names) (defBody sstep_names) (defScope sstep_names) .none kV8 dc8 pm8 an8 cd8 ct8), sl8⟩) (d8 : PySem.W.codeIn K cd8 "step_names" = true) (k8 : PySem.W.keepIn K (.ref f8) = true)
    (a9 : PySem.W.nsIn K mainGlobals "inputs_of" = some (some (.ref f9))) (l9 : K.lookup f9 = some ⟨oc9, od9, .func (PySem.W.fnOf "inputs_of" "inputs_of" (defArgs sinputs_of) (defBody sinputs_of) (defScope sinputs_of) .none kV9 dc9 pm9 an9 cd9 ct9), sl9⟩) (d9 : PySem.W.codeIn K cd9 "inputs_of" = true) (k9 : PySem.W.keepIn K (.ref f9) = true)
    (a10 : PySem.W.nsIn K mainGlobals "outputs_of" = some (some (.ref f10))) (l10 : K.lookup f10 = some ⟨oc10, od10, .func (PySem.W.fnOf "outputs_of" "outputs_of" (defArgs soutputs_of) (defBody soutputs_of) (defScope soutputs_of) .none kV10 dc10 pm10 an10 cd10 ct10), sl10⟩) (d10 : PySem.W.codeIn K cd10 "outputs_of" = true) (k10 : PySem.W.keepIn K (.ref f10) = true)
    (a11 : PySem.W.nsIn K mainGlobals "check_net" = some (some (.ref f11))) (l11 : K.lookup f11 = some ⟨oc11, od11, .func (PySem.W.fnOf "check_net" "check_net" (defArgs scheck_net) (defBody scheck_net) (defScope scheck_net) .none kV11 dc11 pm11 an11 cd11 ct11), sl11⟩) (d11 : PySem.W.codeIn K cd11 "check_net" = true) (k11 : PySem.W.keepIn K (.ref f11) = true)
    (a12 : PySem.W.nsIn K mainGlobals "find_step" = some (some (.ref f12))) (l12 : K.lookup f12 = some ⟨oc12, od12, .func (PySem.W.fnOf "find_step" "find_step" (defArgs sfind_step) (defBody sfind_step) (defScope sfind_step) .none kV12 dc12 pm12 an12 cd12 ct12), sl12⟩) (d12 : PySem.W.codeIn K cd12 "find_step" = true) (k12 : PySem.W.keepIn K (.ref f12) = true)
    (a13 : PySem.W.nsIn K mainGlobals "are_places" = some (some (.ref f13))) (l13 : K.lookup f13 = some ⟨oc13, od13, .func (PySem.W.fnOf "are_places" "are_places" (defArgs sare_places) (defBody sare_places) (defScope sare_places) .none kV13 dc13 pm13 an13 cd13 ct13), sl13⟩) (d13 : PySem.W.codeIn K cd13 "are_places" = true) (k13 : PySem.W.keepIn K (.ref f13) = true)
    (a14 : PySem.W.nsIn K mainGlobals "_is_step" = some (some (.ref f14))) (l14 : K.lookup f14 = some ⟨oc14, od14, .func (PySem.W.fnOf "_is_step" "_is_step" (defArgs s_is_step) (defBody s_is_step) (defScope s_is_step) .none kV14 dc14 pm14 an14 cd14 ct14), sl14⟩) (d14 : PySem.W.codeIn K cd14 "_is_step" = true) (k14 : PySem.W.keepIn K (.ref f14) = true)
    (a15 : PySem.W.nsIn K mainGlobals "_can_be_put_in_order" = some (some (.ref f15))) (l15 : K.lookup f15 = some ⟨oc15, od15, .func (PySem.W.fnOf "_can_be_put_in_order" "_can_be_put_in_order" (defArgs s_can_be_put_in_order) (defBody s_can_be_put_in_order) (defScope s_can_be_put_in_order) .none kV15 dc15 pm15 an15 cd15 ct15), sl15⟩) (d15 : PySem.W.codeIn K cd15 "_can_be_put_in_order" = true) (k15 : PySem.W.keepIn K (.ref f15) = true)
    (a16 : PySem.W.nsIn K mainGlobals "_put_in_order" = some (some (.ref f16))) (l16 : K.lookup f16 = some ⟨oc16, od16, .func (PySem.W.fnOf "_put_in_order" "_put_in_order" (defArgs s_put_in_order) (defBody s_put_in_order) (defScope s_put_in_order) .none kV16 dc16 pm16 an16 cd16 ct16), sl16⟩) (d16 : PySem.W.codeIn K cd16 "_put_in_order" = true) (k16 : PySem.W.keepIn K (.ref f16) = true)
    (a17 : PySem.W.nsIn K mainGlobals "_law_dice" = some (some (.ref f17))) (l17 : K.lookup f17 = some ⟨oc17, od17, .func (PySem.W.fnOf "_law_dice" "_law_dice" (defArgs s_law_dice) (defBody s_law_dice) (defScope s_law_dice) .none kV17 dc17 pm17 an17 cd17 ct17), sl17⟩) (d17 : PySem.W.codeIn K cd17 "_law_dice" = true) (k17 : PySem.W.keepIn K (.ref f17) = true)
    (a18 : PySem.W.nsIn K mainGlobals "_law_roll" = some (some (.ref f18))) (l18 : K.lookup f18 = some ⟨oc18, od18, .func (PySem.W.fnOf "_law_roll" "_law_roll" (defArgs s_law_roll) (defBody s_law_roll) (defScope s_law_roll) .none kV18 dc18 pm18 an18 cd18 ct18), sl18⟩) (d18 : PySem.W.codeIn K cd18 "_law_roll" = true) (k18 : PySem.W.keepIn K (.ref f18) = true)
    (a19 : PySem.W.nsIn K mainGlobals "_law_one_of" = some (some (.ref f19))) (l19 : K.lookup f19 = some ⟨oc19, od19, .func (PySem.W.fnOf "_law_one_of" "_law_one_of" (defArgs s_law_one_of) (defBody s_law_one_of) (defScope s_law_one_of) .none kV19 dc19 pm19 an19 cd19 ct19), sl19⟩) (d19 : PySem.W.codeIn K cd19 "_law_one_of" = true) (k19 : PySem.W.keepIn K (.ref f19) = true)
    (a20 : PySem.W.nsIn K mainGlobals "_law_mixed" = some (some (.ref f20))) (l20 : K.lookup f20 = some ⟨oc20, od20, .func (PySem.W.fnOf "_law_mixed" "_law_mixed" (defArgs s_law_mixed) (defBody s_law_mixed) (defScope s_law_mixed) .none kV20 dc20 pm20 an20 cd20 ct20), sl20⟩) (d20 : PySem.W.codeIn K cd20 "_law_mixed" = true) (k20 : PySem.W.keepIn K (.ref f20) = true)
    (a21 : PySem.W.nsIn K mainGlobals "_law_words" = some (some (.ref f21))) (l21 : K.lookup f21 = some ⟨oc21, od21, .func (PySem.W.fnOf "_law_words" "_law_words" (defArgs s_law_words) (defBody s_law_words) (defScope s_law_words) .none kV21 dc21 pm21 an21 cd21 ct21), sl21⟩) (d21 : PySem.W.codeIn K cd21 "_law_words" = true) (k21 : PySem.W.keepIn K (.ref f21) = true)
    (a22 : PySem.W.nsIn K mainGlobals "_law_any_net" = some (some (.ref f22))) (l22 : K.lookup f22 = some ⟨oc22, od22, .func (PySem.W.fnOf "_law_any_net" "_law_any_net" (defArgs s_law_any_net) (defBody s_law_any_net) (defScope s_law_any_net) .none kV22 dc22 pm22 an22 cd22 ct22), sl22⟩) (d22 : PySem.W.codeIn K cd22 "_law_any_net" = true) (k22 : PySem.W.keepIn K (.ref f22) = true)
    (a23 : PySem.W.nsIn K mainGlobals "_law_is_number" = some (some (.ref f23))) (l23 : K.lookup f23 = some ⟨oc23, od23, .func (PySem.W.fnOf "_law_is_number" "_law_is_number" (defArgs s_law_is_number) (defBody s_law_is_number) (defScope s_law_is_number) .none kV23 dc23 pm23 an23 cd23 ct23), sl23⟩) (d23 : PySem.W.codeIn K cd23 "_law_is_number" = true) (k23 : PySem.W.keepIn K (.ref f23) = true)
    (a24 : PySem.W.nsIn K mainGlobals "_law_is_word" = some (some (.ref f24))) (l24 : K.lookup f24 = some ⟨oc24, od24, .func (PySem.W.fnOf "_law_is_word" "_law_is_word" (defArgs s_law_is_word) (defBody s_law_is_word) (defScope s_law_is_word) .none kV24 dc24 pm24 an24 cd24 ct24), sl24⟩) (d24 : PySem.W.codeIn K cd24 "_law_is_word" = true) (k24 : PySem.W.keepIn K (.ref f24) = true)
    (a25 : PySem.W.nsIn K mainGlobals "_law_are_places" = some (some (.ref f25))) (l25 : K.lookup f25 = some ⟨oc25, od25, .func (PySem.W.fnOf "_law_are_places" "_law_are_places" (defArgs s_law_are_places) (defBody s_law_are_places) (defScope s_law_are_places) .none kV25 dc25 pm25 an25 cd25 ct25), sl25⟩) (d25 : PySem.W.codeIn K cd25 "_law_are_places" = true) (k25 : PySem.W.keepIn K (.ref f25) = true)
    (a26 : PySem.W.nsIn K mainGlobals "_law_is_net" = some (some (.ref f26))) (l26 : K.lookup f26 = some ⟨oc26, od26, .func (PySem.W.fnOf "_law_is_net" "_law_is_net" (defArgs s_law_is_net) (defBody s_law_is_net) (defScope s_law_is_net) .none kV26 dc26 pm26 an26 cd26 ct26), sl26⟩) (d26 : PySem.W.codeIn K cd26 "_law_is_net" = true) (k26 : PySem.W.keepIn K (.ref f26) = true)
    (a27 : PySem.W.nsIn K mainGlobals "_law_bent" = some (some (.ref f27))) (l27 : K.lookup f27 = some ⟨oc27, od27, .func (PySem.W.fnOf "_law_bent" "_law_bent" (defArgs s_law_bent) (defBody s_law_bent) (defScope s_law_bent) .none kV27 dc27 pm27 an27 cd27 ct27), sl27⟩) (d27 : PySem.W.codeIn K cd27 "_law_bent" = true) (k27 : PySem.W.keepIn K (.ref f27) = true)
    (a28 : PySem.W.nsIn K mainGlobals "_law_loose" = some (some (.ref f28))) (l28 : K.lookup f28 = some ⟨oc28, od28, .func (PySem.W.fnOf "_law_loose" "_law_loose" (defArgs s_law_loose) (defBody s_law_loose) (defScope s_law_loose) .none kV28 dc28 pm28 an28 cd28 ct28), sl28⟩) (d28 : PySem.W.codeIn K cd28 "_law_loose" = true) (k28 : PySem.W.keepIn K (.ref f28) = true)
    (a29 : PySem.W.nsIn K mainGlobals "_law_tidied" = some (some (.ref f29))) (l29 : K.lookup f29 = some ⟨oc29, od29, .func (PySem.W.fnOf "_law_tidied" "_law_tidied" (defArgs s_law_tidied) (defBody s_law_tidied) (defScope s_law_tidied) .none kV29 dc29 pm29 an29 cd29 ct29), sl29⟩) (d29 : PySem.W.codeIn K cd29 "_law_tidied" = true) (k29 : PySem.W.keepIn K (.ref f29) = true)
    (a30 : PySem.W.nsIn K mainGlobals "_law_made" = some (some (.ref f30))) (l30 : K.lookup f30 = some ⟨oc30, od30, .func (PySem.W.fnOf "_law_made" "_law_made" (defArgs s_law_made) (defBody s_law_made) (defScope s_law_made) .none kV30 dc30 pm30 an30 cd30 ct30), sl30⟩) (d30 : PySem.W.codeIn K cd30 "_law_made" = true) (k30 : PySem.W.keepIn K (.ref f30) = true)
    (a31 : PySem.W.nsIn K mainGlobals "_law_met" = some (some (.ref f31))) (l31 : K.lookup f31 = some ⟨oc31, od31, .func (PySem.W.fnOf "_law_met" "_law_met" (defArgs s_law_met) (defBody s_law_met) (defScope s_law_met) .none kV31 dc31 pm31 an31 cd31 ct31), sl31⟩) (d31 : PySem.W.codeIn K cd31 "_law_met" = true) (k31 : PySem.W.keepIn K (.ref f31) = true)
    (a32 : PySem.W.nsIn K mainGlobals "_law_makes_right" = some (some (.ref f32))) (l32 : K.lookup f32 = some ⟨oc32, od32, .func (PySem.W.fnOf "_law_makes_right" "_law_makes_right" (defArgs s_law_makes_right) (defBody s_law_makes_right) (defScope s_law_makes_right) .none kV32 dc32 pm32 an32 (.ref cM) ct32), sl32⟩) (d32 : PySem.W.codeIn K (.ref cM) "_law_makes_right" = true) (k32 : PySem.W.keepIn K (.ref f32) = true)
    (a33 : PySem.W.nsIn K mainGlobals "_law_steps_right" = some (some (.ref f33))) (l33 : K.lookup f33 = some ⟨oc33, od33, .func (PySem.W.fnOf "_law_steps_right" "_law_steps_right" (defArgs s_law_steps_right) (defBody s_law_steps_right) (defScope s_law_steps_right) .none kV33 dc33 pm33 an33 (.ref cS) ct33), sl33⟩) (d33 : PySem.W.codeIn K (.ref cS) "_law_steps_right" = true) (k33 : PySem.W.keepIn K (.ref f33) = true)
    (a34 : PySem.W.nsIn K mainGlobals "_law_limits_right" = some (some (.ref f34))) (l34 : K.lookup f34 = some ⟨oc34, od34, .func (PySem.W.fnOf "_law_limits_right" "_law_limits_right" (defArgs s_law_limits_right) (defBody s_law_limits_right) (defScope s_law_limits_right) .none kV34 dc34 pm34 an34 (.ref cL) ct34), sl34⟩) (d34 : PySem.W.codeIn K (.ref cL) "_law_limits_right" = true) (k34 : PySem.W.keepIn K (.ref f34) = true)
    (a35 : PySem.W.nsIn K mainGlobals "law" = some (some (.ref f35))) (l35 : K.lookup f35 = some ⟨oc35, od35, .func (PySem.W.fnOf "law" "law" (defArgs slaw) (defBody slaw) (defScope slaw) .none kV35 dc35 pm35 an35 cd35 ct35), sl35⟩) (d35 : PySem.W.codeIn K cd35 "law" = true) (k35 : PySem.W.keepIn K (.ref f35) = true)
    (a36 : PySem.W.findIn K (.ref c2) "__init__" = some (some (.ref f36))) (t36 : PySem.W.typeIn K (.ref f36) = some (.type "function")) (l36 : K.lookup f36 = some ⟨oc36, od36, .func (PySem.W.fnOf "__init__" "UnknownStep.__init__" (defArgs sUnknownStep) (defBody sUnknownStep) (defScope sUnknownStep) .none kV36 dc36 pm36 an36 cd36 ct36), sl36⟩) (d36 : PySem.W.codeIn K cd36 "UnknownStep.__init__" = true) (k36 : PySem.W.keepIn K (.ref f36) = true)
    (xL2 : K.lookup c2 = some (excClassObj nm2 q2 c2 N2 bs2 tKey true sn2 sub2 ab2 col2 dd2 m02 m12 m22 m32 m52 "LookupError.__new__"))
    (v2 : valB K c2 "name" = true)
    (bKeyError : PySem.W.findCls K (.type "KeyError") (.type "type") "__init__" = some (.val (.builtin "KeyError.__init__")))
    (a37 : PySem.W.findIn K (.ref c3) "__init__" = some (some (.ref f37))) (t37 : PySem.W.typeIn K (.ref f37) = some (.type "function")) (l37 : K.lookup f37 = some ⟨oc37, od37, .func (PySem.W.fnOf "__init__" "InvalidNumber.__init__" (defArgs sInvalidNumber) (defBody sInvalidNumber) (defScope sInvalidNumber) .none kV37 dc37 pm37 an37 cd37 ct37), sl37⟩) (d37 : PySem.W.codeIn K cd37 "InvalidNumber.__init__" = true) (k37 : PySem.W.keepIn K (.ref f37) = true)
    (xL3 : K.lookup c3 = some (excClassObj nm3 q3 c3 N3 bs3 tIndex true sn3 sub3 ab3 col3 dd3 m03 m13 m23 m33 m53 "IndexError.__new__"))
    (v3 : valB K c3 "value" = true)
    (bIndexError : PySem.W.findCls K (.type "IndexError") (.type "type") "__init__" = some (.val (.builtin "IndexError.__init__")))
    (mm0 : msgB K c0 = true)
    (mm1 : msgB K c1 = true)
    (tI : PySem.W.typeIn K (.ref c0) = some (.type "type"))
    (eSS : PySem.W.exmOne K (.ref c2) (.ref c2) = some true)
    (eNS : PySem.W.exmOne K (.ref c3) (.ref c2) = some false)
    (eNN : PySem.W.exmOne K (.ref c3) (.ref c3) = some true)
    (eIS : PySem.W.exmOne K (.ref c0) (.ref c2) = some false)
    (eIN : PySem.W.exmOne K (.ref c0) (.ref c3) = some false)
    (eIF : PySem.W.exmOne K (.ref c0) (.ref c4) = some true)
    (eWS : PySem.W.exmOne K (.ref c1) (.ref c2) = some false)
    (eWN : PySem.W.exmOne K (.ref c1) (.ref c3) = some false)
    (eWF : PySem.W.exmOne K (.ref c1) (.ref c4) = some true)
    (kII : PySem.W.kitOne K (.ref c0) (.ref c0) = some true)
    (kIW : PySem.W.kitOne K (.ref c0) (.ref c1) = some false)
    (kWI : PySem.W.kitOne K (.ref c1) (.ref c0) = some false)
    (kWW : PySem.W.kitOne K (.ref c1) (.ref c1) = some true)
    (nn : noneB K ["isinstance", "int", "bool", "str", "tuple", "len", "all", "zip", "list", "dict", "set", "sorted", "range", "max", "min", "repr", "abs", "enumerate", "KeyError", "IndexError"] = true)
    (gL : PySem.W.nsIn K mainGlobals "MAX_LETTERS" = some (some (.int 8 tkL))) (gP : PySem.W.nsIn K mainGlobals "MAX_PLACES" = some (some (.int 30 tkP))) (gS : PySem.W.nsIn K mainGlobals "MAX_STEPS" = some (some (.int 40 tkT)))
    (yM : K.lookup cM = some ⟨ocTM, odTM, .fields vsM, oslTM⟩) (zM : vsM[11]? = some (.ref PM)) (nTM : K.lookup PM = none)
    (yS : K.lookup cS = some ⟨ocTS, odTS, .fields vsS, oslTS⟩) (zS : vsS[11]? = some (.ref PS)) (nTS : K.lookup PS = none)
    (yL : K.lookup cL = some ⟨ocTL, odTL, .fields vsL, oslTL⟩) (zL : vsL[11]? = some (.ref PL)) (nTL : K.lookup PL = none)
    (dMS : PM ≠ PS) (dML : PM ≠ PL) (dSL : PS ≠ PL)
    (tabs : ∀ (x : Str) (f c P : Addr) (oc oc2 : Value) (od od2 : Option Addr) (fd : FuncData) (osl osl2 : Array (Option Value)) (vs : Array Value), x ∈ tabNames → PySem.W.nsIn K mainGlobals x = some (some (.ref f)) → K.lookup f = some ⟨oc, od, .func fd, osl⟩ → fd.code = .ref c → K.lookup c = some ⟨oc2, od2, .fields vs, osl2⟩ → vs[11]? = some (.ref P) → PySem.W.CodeHd h c P ∧ h.get? P = some (PySem.W.tabObj #[]))
    : LamX.LawAtG l w K CX0 19 63 "script" mg fa h := by
  have e := hfa.symm.trans (PySem.W.mg_of X G a35)
  cases e
  have z_isinstance : mg "isinstance" = none := PySem.W.mg_none_of X G (noneB_ok nn (by decide))
  have z_int : mg "int" = none := PySem.W.mg_none_of X G (noneB_ok nn (by decide))
  have z_bool : mg "bool" = none := PySem.W.mg_none_of X G (noneB_ok nn (by decide))
  have z_str : mg "str" = none := PySem.W.mg_none_of X G (noneB_ok nn (by decide))
  have z_tuple : mg "tuple" = none := PySem.W.mg_none_of X G (noneB_ok nn (by decide))
  have z_len : mg "len" = none := PySem.W.mg_none_of X G (noneB_ok nn (by decide))
  have z_all : mg "all" = none := PySem.W.mg_none_of X G (noneB_ok nn (by decide))
  have z_zip : mg "zip" = none := PySem.W.mg_none_of X G (noneB_ok nn (by decide))
  have z_list : mg "list" = none := PySem.W.mg_none_of X G (noneB_ok nn (by decide))
  have z_dict : mg "dict" = none := PySem.W.mg_none_of X G (noneB_ok nn (by decide))
  have z_set : mg "set" = none := PySem.W.mg_none_of X G (noneB_ok nn (by decide))
  have z_sorted : mg "sorted" = none := PySem.W.mg_none_of X G (noneB_ok nn (by decide))
  have z_range : mg "range" = none := PySem.W.mg_none_of X G (noneB_ok nn (by decide))
  have z_max : mg "max" = none := PySem.W.mg_none_of X G (noneB_ok nn (by decide))
  have z_min : mg "min" = none := PySem.W.mg_none_of X G (noneB_ok nn (by decide))
  have z_repr : mg "repr" = none := PySem.W.mg_none_of X G (noneB_ok nn (by decide))
  have z_abs : mg "abs" = none := PySem.W.mg_none_of X G (noneB_ok nn (by decide))
  have z_enumerate : mg "enumerate" = none := PySem.W.mg_none_of X G (noneB_ok nn (by decide))
  have z_KeyError : mg "KeyError" = none := PySem.W.mg_none_of X G (noneB_ok nn (by decide))
  have z_IndexError : mg "IndexError" = none := PySem.W.mg_none_of X G (noneB_ok nn (by decide))
  have g0 : mg "InvalidNet" = some (.ref c0) := PySem.W.mg_of X G aC0
  have g1 : mg "InvalidWorkflow" = some (.ref c1) := PySem.W.mg_of X G aC1
  have g2 : mg "UnknownStep" = some (.ref c2) := PySem.W.mg_of X G aC2
  have g3 : mg "InvalidNumber" = some (.ref c3) := PySem.W.mg_of X G aC3
  have g4 : mg "FlowError" = some (.ref c4) := PySem.W.mg_of X G aC4
  have w2 := valB_ok v2
  have w3 := valB_ok v3
  have F0 := fun_mk (st := scopied) l0 d0 k0
  have F1 := fun_mk (st := sis_integer) l1 d1 k1
  have F2 := fun_mk (st := sis_integer_within) l2 d2 k2
  have F3 := fun_mk (st := sare_integers) l3 d3 k3
  have F4 := fun_mk (st := sis_name) l4 d4 k4
  have F5 := fun_mk (st := sascends) l5 d5 k5
  have F6 := fun_mk (st := sis_net) l6 d6 k6
  have F7 := fun_mk (st := smake_net) l7 d7 k7
  have F8 := fun_mk (st := sstep_names) l8 d8 k8
  have F9 := fun_mk (st := sinputs_of) l9 d9 k9
  have F10 := fun_mk (st := soutputs_of) l10 d10 k10
  have F11 := fun_mk (st := scheck_net) l11 d11 k11
  have F12 := fun_mk (st := sfind_step) l12 d12 k12
  have F13 := fun_mk (st := sare_places) l13 d13 k13
  have F14 := fun_mk (st := s_is_step) l14 d14 k14
  have F15 := fun_mk (st := s_can_be_put_in_order) l15 d15 k15
  have F16 := fun_mk (st := s_put_in_order) l16 d16 k16
  have F17 := fun_mk (st := s_law_dice) l17 d17 k17
  have F18 := fun_mk (st := s_law_roll) l18 d18 k18
  have F19 := fun_mk (st := s_law_one_of) l19 d19 k19
  have F20 := fun_mk (st := s_law_mixed) l20 d20 k20
  have F21 := fun_mk (st := s_law_words) l21 d21 k21
  have F22 := fun_mk (st := s_law_any_net) l22 d22 k22
  have F23 := fun_mk (st := s_law_is_number) l23 d23 k23
  have F24 := fun_mk (st := s_law_is_word) l24 d24 k24
  have F25 := fun_mk (st := s_law_are_places) l25 d25 k25
  have F26 := fun_mk (st := s_law_is_net) l26 d26 k26
  have F27 := fun_mk (st := s_law_bent) l27 d27 k27
  have F28 := fun_mk (st := s_law_loose) l28 d28 k28
  have F29 := fun_mk (st := s_law_tidied) l29 d29 k29
  have F30 := fun_mk (st := s_law_made) l30 d30 k30
  have F31 := fun_mk (st := s_law_met) l31 d31 k31
  have F35 := fun_mk (st := slaw) l35 d35 k35
  have F36 := fun_mk (st := sUnknownStep) l36 d36 k36
  have F37 := fun_mk (st := sInvalidNumber) l37 d37 k37
  have b0 := F0.binds (ps := ["value"]) fun _ _ _ _ _ _ us hl => match us, hl with | [_], _ => rfl
  have b1 := F1.binds (ps := ["value"]) fun _ _ _ _ _ _ us hl => match us, hl with | [_], _ => rfl
  have b2 := F2.binds (ps := ["value", "least", "most"]) fun _ _ _ _ _ _ us hl => match us, hl with | [_, _, _], _ => rfl
  have b3 := F3.binds (ps := ["value"]) fun _ _ _ _ _ _ us hl => match us, hl with | [_], _ => rfl
  have b4 := F4.binds (ps := ["value"]) fun _ _ _ _ _ _ us hl => match us, hl with | [_], _ => rfl
  have b5 := F5.binds (ps := ["values"]) fun _ _ _ _ _ _ us hl => match us, hl with | [_], _ => rfl
  have b6 := F6.binds (ps := ["value"]) fun _ _ _ _ _ _ us hl => match us, hl with | [_], _ => rfl
  have b8 := F8.binds (ps := ["net"]) fun _ _ _ _ _ _ us hl => match us, hl with | [_], _ => rfl
  have b9 := F9.binds (ps := ["net", "name"]) fun _ _ _ _ _ _ us hl => match us, hl with | [_, _], _ => rfl
  have b10 := F10.binds (ps := ["net", "name"]) fun _ _ _ _ _ _ us hl => match us, hl with | [_, _], _ => rfl
  have b11 := F11.binds (ps := ["net"]) fun _ _ _ _ _ _ us hl => match us, hl with | [_], _ => rfl
  have b12 := F12.binds (ps := ["net", "name"]) fun _ _ _ _ _ _ us hl => match us, hl with | [_, _], _ => rfl
  have b13 := F13.binds (ps := ["places", "value"]) fun _ _ _ _ _ _ us hl => match us, hl with | [_, _], _ => rfl
  have b14 := F14.binds (ps := ["places", "value"]) fun _ _ _ _ _ _ us hl => match us, hl with | [_, _], _ => rfl
  have b15 := F15.binds (ps := ["value"]) fun _ _ _ _ _ _ us hl => match us, hl with | [_], _ => rfl
  have b16 := F16.binds (ps := ["step"]) fun _ _ _ _ _ _ us hl => match us, hl with | [_], _ => rfl
  have b17 := F17.binds (ps := ["script", "at"]) fun _ _ _ _ _ _ us hl => match us, hl with | [_, _], _ => rfl
  have b18 := F18.binds (ps := ["dice", "total"]) fun _ _ _ _ _ _ us hl => match us, hl with | [_, _], _ => rfl
  have b19 := F19.binds (ps := ["dice", "items"]) fun _ _ _ _ _ _ us hl => match us, hl with | [_, _], _ => rfl
  have b20 := F20.binds (ps := ["dice", "items"]) fun _ _ _ _ _ _ us hl => match us, hl with | [_, _], _ => rfl
  have b21 := F21.binds (ps := ["dice", "total"]) fun _ _ _ _ _ _ us hl => match us, hl with | [_, _], _ => rfl
  have b22 := F22.binds (ps := ["dice", "total"]) fun _ _ _ _ _ _ us hl => match us, hl with | [_, _], _ => rfl
  have b23 := F23.binds (ps := ["thing", "low", "high"]) fun _ _ _ _ _ _ us hl => match us, hl with | [_, _, _], _ => rfl
  have b24 := F24.binds (ps := ["thing"]) fun _ _ _ _ _ _ us hl => match us, hl with | [_], _ => rfl
  have b25 := F25.binds (ps := ["thing", "places"]) fun _ _ _ _ _ _ us hl => match us, hl with | [_, _], _ => rfl
  have b26 := F26.binds (ps := ["thing"]) fun _ _ _ _ _ _ us hl => match us, hl with | [_], _ => rfl
  have b27 := F27.binds (ps := ["dice", "thing", "deep"]) fun _ _ _ _ _ _ us hl => match us, hl with | [_, _, _], _ => rfl
  have b28 := F28.binds (ps := ["dice", "part"]) fun _ _ _ _ _ _ us hl => match us, hl with | [_, _], _ => rfl
  have b29 := F29.binds (ps := ["places", "given"]) fun _ _ _ _ _ _ us hl => match us, hl with | [_, _], _ => rfl
  have b30 := F30.binds (ps := ["places", "given"]) fun _ _ _ _ _ _ us hl => match us, hl with | [_, _], _ => rfl
  have b31 := F31.binds (ps := ["call"]) fun _ _ _ _ _ _ us hl => match us, hl with | [_], _ => rfl
  have F32 := fun_mk (st := s_law_makes_right) l32 d32 k32
  have b32 := F32.binds (ps := ["dice", "net"]) fun _ _ _ _ _ _ us hl => match us, hl with | [_, _], _ => rfl
  have F33 := fun_mk (st := s_law_steps_right) l33 d33 k33
  have b33 := F33.binds (ps := ["dice", "net"]) fun _ _ _ _ _ _ us hl => match us, hl with | [_, _], _ => rfl
  have F34 := fun_mk (st := s_law_limits_right) l34 d34 k34
  have b34 := F34.binds (ps := []) fun _ _ _ _ _ _ us hl => match us, hl with | [], _ => rfl
  have b35 := F35.binds (ps := ["script"]) fun _ _ _ _ _ _ us hl => match us, hl with | [_], _ => rfl
  have b36 := F36.binds (ps := ["self", "name"]) fun _ _ _ _ _ _ us hl => match us, hl with | [_, _], _ => rfl
  have b37 := F37.binds (ps := ["self", "value"]) fun _ _ _ _ _ _ us hl => match us, hl with | [_, _], _ => rfl
  obtain ⟨hdM, tbM⟩ := tabs "_law_makes_right" _ _ _ _ _ _ _ _ _ _ _ (by decide) a32 l32 rfl yM zM
  obtain ⟨hdS, tbS⟩ := tabs "_law_steps_right" _ _ _ _ _ _ _ _ _ _ _ (by decide) a33 l33 rfl yS zS
  obtain ⟨hdL, tbL⟩ := tabs "_law_limits_right" _ _ _ _ _ _ _ _ _ _ _ (by decide) a34 l34 rfl yL zL
  refine ⟨PySem.W.fnOf "law" "law" (defArgs slaw) (defBody slaw) (defScope slaw) .none kV35 dc35 pm35 an35 cd35 ct35, [(cM, PM), (cS, PS), (cL, PL)], spLawT K [(PM, qMr), (PS, qSr), (PL, qLr)], ?_, ?_, ?_, fun s v => .of_eq rfl, ?_, fun base Kb Gb TB => ?_⟩
  · intro p hp
    simp only [List.mem_cons, List.not_mem_nil, or_false] at hp
    rcases hp with rfl | rfl | rfl
    · exact tbM
    · exact tbS
    · exact tbL
  · intro p hp
    simp only [List.mem_cons, List.not_mem_nil, or_false] at hp
    rcases hp with rfl | rfl | rfl
    · exact nTM
    · exact nTS
    · exact nTL
  · intro p hp
    simp only [List.mem_cons, List.not_mem_nil, or_false] at hp
    rcases hp with rfl | rfl | rfl
    · exact hdM
    · exact hdS
    · exact hdL
  · intro H a ns hlen _ hT hS
    refine ⟨a, ns, rfl, hS, hlen, fun q hq => ?_, fun _ => rfl⟩
    simp only [List.mem_cons, List.not_mem_nil, or_false] at hq
    rcases hq with rfl | rfl | rfl
    · exact TabS.nil (hT (cM, PM) (by simp))
    · exact TabS.nil (hT (cS, PS) (by simp))
    · exact TabS.nil (hT (cL, PL) (by simp))
  have TA : TxtA mg := ⟨z_isinstance, z_int, z_bool, z_str, z_tuple, z_len, z_all, z_zip, ⟨_, PySem.W.mg_of X G gL⟩, ⟨_, PySem.W.mg_of X G gP⟩, ⟨_, PySem.W.mg_of X G gS⟩⟩
  have TS : TxtS mg := ⟨z_set, z_sorted⟩
  have TX : TxtX mg := ⟨z_list, z_range, z_len⟩
  have TW : TxtW mg := ⟨z_range⟩
  have TT : Txt mg := ⟨z_len, z_abs, z_int, z_enumerate⟩
  have TN : TxtM2 mg := ⟨z_max, z_min⟩
  have E0 := msgB_ok mm0 g0
  have E1 := msgB_ok mm1 g1
  have Oc : OwnK l.prog w K mg base CX0 "copied" 11 ["value"] (spCop K 10) := own_copied F0 ⟨z_isinstance, z_list, z_tuple, z_dict⟩ (PySem.W.mg_of X G a0) b0 10
  have y2 : XCls K c2 "LookupError.__new__" tKey := ⟨⟨nm2, q2, N2, bs2, sn2, sub2, ab2, col2, dd2, m02, m12, m22, m32, m52, xL2⟩, w2.sa, w2.ex, w2.ty, w2.k⟩
  have E2 : ErrQ l.prog w K mg base "UnknownStep" c2 "name" "KeyError" "LookupError.__new__" "KeyError.__init__" tKey := ⟨xb_KeyError, y2, w2.xi, w2.xf, w2.no, g2, _, _, a36, t36, ok_UnknownStep F36 z_KeyError y2 w2.no bKeyError Oc, b36⟩
  have y3 : XCls K c3 "IndexError.__new__" tIndex := ⟨⟨nm3, q3, N3, bs3, sn3, sub3, ab3, col3, dd3, m03, m13, m23, m33, m53, xL3⟩, w3.sa, w3.ex, w3.ty, w3.k⟩
  have E3 : ErrQ l.prog w K mg base "InvalidNumber" c3 "value" "IndexError" "IndexError.__new__" "IndexError.__init__" tIndex := ⟨xb_IndexError, y3, w3.xi, w3.xf, w3.no, g3, _, _, a37, t37, ok_InvalidNumber F37 z_IndexError y3 w3.no bIndexError Oc, b37⟩
  have Oii : Own l.prog w K mg base CX0 "is_integer" 1 ["value"] (spT K isIntD) := ⟨_, _, ok_is_integer F1 TA, PySem.W.mg_of X G a1, k1, b1⟩
  have Oiw : Own l.prog w K mg base CX0 "is_integer_within" 2 ["value", "least", "most"] (spWithin K) := ⟨_, _, ok_is_integer_within F2 Oii, PySem.W.mg_of X G a2, k2, b2⟩
  have Oai : Own l.prog w K mg base CX0 "are_integers" 2 ["value"] (fun vs H Q E => spN K intsD vs H Q E ∨ spDct vs H Q E) := ⟨_, _, fn_or (ok_are_integers F3 TA Oii) (ok_are_dct F3 TA Oii), PySem.W.mg_of X G a3, k3, b3⟩
  have Oa1 : Own l.prog w K mg base CX0 "are_integers" 2 ["value"] (spN K intsD) := ⟨_, _, ok_are_integers F3 TA Oii, PySem.W.mg_of X G a3, k3, b3⟩
  have Onm : Own l.prog w K mg base CX0 "is_name" 1 ["value"] (spN K isNameD) := ⟨_, _, ok_is_name F4 TA, PySem.W.mg_of X G a4, k4, b4⟩
  have Oas : Own l.prog w K mg base CX0 "ascends" 1 ["values"] (spAsc K) := ⟨_, _, ok_ascends F5 TA, PySem.W.mg_of X G a5, k5, b5⟩
  have Oap : Own l.prog w K mg base CX0 "are_places" 3 ["places", "value"] (spPlaces K placesD) := ⟨_, _, ok_are_places F13 TA Oiw Oas, PySem.W.mg_of X G a13, k13, b13⟩
  have Ost : Own l.prog w K mg base CX0 "_is_step" 4 ["places", "value"] (spPlaces K stepD) := ⟨_, _, ok_is_step F14 TA Onm Oap, PySem.W.mg_of X G a14, k14, b14⟩
  have Ois : Own l.prog w K mg base CX0 "is_net" 5 ["value"] (spN K netD) := ⟨_, _, ok_is_net F6 TA Oiw Oas Ost, PySem.W.mg_of X G a6, k6, b6⟩
  have Ock : Own l.prog w K mg base (L2.CX l.prog w) "check_net" 6 ["net"] (spChk K c0 netD) := ⟨_, _, ok_check_net F11 E0 tI Ois, PySem.W.mg_of X G a11, k11, b11⟩
  have Ofs : Own l.prog w K mg base (L2.CX l.prog w) "find_step" 14 ["net", "name"] (spFind K c2) := ⟨_, _, ok_find_step F12 E2, PySem.W.mg_of X G a12, k12, b12⟩
  have Osn : Own l.prog w K mg base (L2.CX l.prog w) "step_names" 7 ["net"] (spNames K c0) := ⟨_, _, ok_step_names F8 TA Ock, PySem.W.mg_of X G a8, k8, b8⟩
  have Oin : Own l.prog w K mg base (L2.CX l.prog w) "inputs_of" 15 ["net", "name"] (spPart K c0 c2 fun b _ => b) := ⟨_, _, ok_inputs_of F9 Ock Ofs, PySem.W.mg_of X G a9, k9, b9⟩
  have Oou : Own l.prog w K mg base (L2.CX l.prog w) "outputs_of" 15 ["net", "name"] (spPart K c0 c2 fun _ b => b) := ⟨_, _, ok_outputs_of F10 Ock Ofs, PySem.W.mg_of X G a10, k10, b10⟩
  have Oc1 : Own l.prog w K mg base CX0 "_can_be_put_in_order" 3 ["value"] (spN K canD) := ⟨_, _, ok_can_be F15 TA Onm Oa1, PySem.W.mg_of X G a15, k15, b15⟩
  have Oc2 : Own l.prog w K mg base CX0 "_can_be_put_in_order" 3 ["value"] (fun vs H Q E => spN K canD vs H Q E ∨ spStepX K vs H Q E) := ⟨_, _, fn_or (ok_can_be F15 TA Onm Oa1) (ok_can_dct F15 TA Onm Oai), PySem.W.mg_of X G a15, k15, b15⟩
  have Opu : Own l.prog w K mg base CX0 "_put_in_order" 1 ["step"] (spPut K) := ⟨_, _, ok_put F16 TA TS, PySem.W.mg_of X G a16, k16, b16⟩
  have Omk : OwnR l.prog w K mg base (L2.CX l.prog w) "make_net" 14 (spMk2 K c3 c0) := ⟨_, fnR_or (ok_make_net F7 TA TS E3 E0 tI Oiw Oc1 Opu Ock) (ok_make_dct F7 TA TS E3 E0 tI Oiw Oc2 Opu Ock), PySem.W.mg_of X G a7, k7⟩
  have Oro : Own l.prog w K mg base CX0 "_law_roll" 1 ["dice", "total"] spRoll := ⟨_, _, ok_roll F18, PySem.W.mg_of X G a18, k18, b18⟩
  have Ord : Own l.prog w K mg base CX0 "_law_roll" 1 ["dice", "total"] spRollD := ⟨_, _, (ok_roll F18).imp fun _ _ _ _ h => rollD h, PySem.W.mg_of X G a18, k18, b18⟩
  have Odi : Own l.prog w K mg base CX0 "_law_dice" 1 ["script", "at"] (spDice K) := ⟨_, _, ok_dice F17 TT, PySem.W.mg_of X G a17, k17, b17⟩
  have Oon : Own l.prog w K mg base CX0 "_law_one_of" 2 ["dice", "items"] spOneD := ⟨_, _, (ok_one_of F19 TT Oro).imp fun _ _ _ _ h => oneD h, PySem.W.mg_of X G a19, k19, b19⟩
  have Omi : Own l.prog w K mg base CX0 "_law_mixed" 2 ["dice", "items"] (spMixD K) := ⟨_, _, (ok_mixed F20 TX Oro).imp fun _ _ _ _ h => mixD h, PySem.W.mg_of X G a20, k20, b20⟩
  have Owo : Own l.prog w K mg base CX0 "_law_words" 2 ["dice", "total"] spWords := ⟨_, _, ok_words F21 TW Ord, PySem.W.mg_of X G a21, k21, b21⟩
  have Oan : Own l.prog w K mg base CX0 "_law_any_net" 4 ["dice", "total"] (spAny K) := ⟨_, _, (ok_any_net F22 TA TS TX Ord Owo).mono (by decide), PySem.W.mg_of X G a22, k22, b22⟩
  have Oln : Own l.prog w K mg base CX0 "_law_is_number" 1 ["thing", "low", "high"] (spWithin K) := ⟨_, _, ok_law_number F23 TA, PySem.W.mg_of X G a23, k23, b23⟩
  have Olw : Own l.prog w K mg base CX0 "_law_is_word" 1 ["thing"] (spN K isNameD) := ⟨_, _, ok_is_word F24 TA TW, PySem.W.mg_of X G a24, k24, b24⟩
  have Olp : Own l.prog w K mg base CX0 "_law_are_places" 2 ["thing", "places"] (spAllIn K) := ⟨_, _, ok_law_places F25 TA Oln, PySem.W.mg_of X G a25, k25, b25⟩
  have Olt : Own l.prog w K mg base CX0 "_law_is_net" 3 ["thing"] (spIsNet K) := ⟨_, _, ok_law_net F26 TA TS TX Oln Olw Olp, PySem.W.mg_of X G a26, k26, b26⟩
  have Ol4 : Own l.prog w K mg base CX0 "_law_is_net" 4 ["thing"] (spIsNet K) := ⟨_, _, (ok_law_net F26 TA TS TX Oln Olw Olp).mono (by decide), PySem.W.mg_of X G a26, k26, b26⟩
  have Obn : ∀ n, Own l.prog w K mg base CX0 "_law_bent" (n + 3) ["dice", "thing", "deep"] (spBent K n) := fun n => by
    induction n with
    | zero => exact ⟨_, _, ok_bent_step F27 TA TX Ord Oon 0 (fun m e => nomatch e), PySem.W.mg_of X G a27, k27, b27⟩
    | succ n ih => exact ⟨_, _, ok_bent_step F27 TA TX Ord Oon (n + 1) (fun m e => by cases e; exact ih), PySem.W.mg_of X G a27, k27, b27⟩
  have Olo : Own l.prog w K mg base CX0 "_law_loose" 3 ["dice", "part"] (spLoose K) := ⟨_, _, ok_loose F28 TA TX Ord Omi, PySem.W.mg_of X G a28, k28, b28⟩
  have Oti : Own l.prog w K mg base CX0 "_law_tidied" 4 ["places", "given"] (spTidied K) := ⟨_, _, ok_tidied F29 TA TS Olw Olp Olt, PySem.W.mg_of X G a29, k29, b29⟩
  have Oma : Own l.prog w K mg base (L2.CX l.prog w) "_law_made" 15 ["places", "given"] (spMade K c3 c0) := ⟨_, _, ok_made F30 TA Omk.one, PySem.W.mg_of X G a30, k30, b30⟩
  have M : MetK K mg ⟨c2, c3, c4, c0, c1⟩ := ⟨⟨_, _, F31, PySem.W.mg_of X G a31, k31, b31⟩, ⟨z_isinstance, z_repr, g2, g3, g4, g0, g1, w2.xf, w2.no, w3.xf, w3.no, eSS, eNS, eNN, eIS, eIN, eIF, eWS, eWN, eWF, E0.xi, E1.xi, kII, kIW, kWI, kWW⟩⟩
  have ne : ∀ x ∈ [(PM, qMr), (PS, qSr), (PL, qLr)], ∀ y ∈ [(PM, qMr), (PS, qSr), (PL, qLr)], x.1 = y.1 → x.2 = y.2 := by
    intro x hx y hy e
    simp only [List.mem_cons, List.not_mem_nil, or_false] at hx hy
    rcases hx with rfl | rfl | rfl <;> rcases hy with rfl | rfl | rfl <;> first | rfl | exact absurd e dMS | exact absurd e dML | exact absurd e dSL | exact absurd e.symm dMS | exact absurd e.symm dML | exact absurd e.symm dSL
  have LKM : LamK base mg (.ref cM) [(PM, qMr), (PS, qSr), (PL, qLr)] qMr := ⟨cM, PM, rfl, TB (cM, PM) (by simp), by simp, fun p hp e => ne p hp (PM, qMr) (by simp) e⟩
  have LKS : LamK base mg (.ref cS) [(PM, qMr), (PS, qSr), (PL, qLr)] qSr := ⟨cS, PS, rfl, TB (cS, PS) (by simp), by simp, fun p hp e => ne p hp (PS, qSr) (by simp) e⟩
  have LKL : LamK base mg (.ref cL) [(PM, qMr), (PS, qSr), (PL, qLr)] qLr := ⟨cL, PL, rfl, TB (cL, PL) (by simp), by simp, fun p hp e => ne p hp (PL, qLr) (by simp) e⟩
  have Omr : Own l.prog w K mg base CX0 "_law_makes_right" 18 ["dice", "net"] (spMakes K [(PM, qMr), (PS, qSr), (PL, qLr)]) := ⟨_, _, ok_makes_right TA TX M LKM ⟨_, _, _, _, _, _, _, _, rfl, l32, d32⟩ Ord Oon Omi (Obn 2) Olo Oma Oti, PySem.W.mg_of X G a32, k32, b32⟩
  have Osr : Own l.prog w K mg base CX0 "_law_steps_right" 18 ["dice", "net"] (spSteps K [(PM, qMr), (PS, qSr), (PL, qLr)]) := ⟨_, _, ok_steps_right TA TX M LKS ⟨_, _, _, _, _, _, _, _, rfl, l33, d33⟩ Oon Osn Oin Oou, PySem.W.mg_of X G a33, k33, b33⟩
  have Olr : Own l.prog w K mg base CX0 "_law_limits_right" 18 [] (spLimits [(PM, qMr), (PS, qSr), (PL, qLr)]) := ⟨_, _, ok_limits_right TA TX M LKL ⟨_, _, _, _, _, _, _, _, rfl, l34, d34⟩ Ois Omk, PySem.W.mg_of X G a34, k34, b34⟩
  exact ok_law F35 TA TX TN z_repr Odi Ord Oan Omr Osr (Obn 4) Ois Ol4 Olr
end K01

set_option Elab.async false
set_option linter.all false
open PySem PySem.W PyProof.Rows in
set_option maxRecDepth 100000 in
set_option maxHeartbeats 0 in
theorem PySem.Challenge.cw_caseflow_k01_nets_made_and_known_holds : PySem.Challenge.rw_caseflow_k01_nets_made_and_known.Holds := by
  w_on; o_law; k_head; (case hw => w_witness2)
  k_fill
  refine LamX.walk_ofTT (l := PySem.Challenge.rw_caseflow_k01_nets_made_and_known) (n := 63) (k := 19) (x := "script") (CX := fun _ => L2.CX0) rfl (by decide) rfl ⟨rfl, by decide, by decide⟩ (fun w h Y => PySem.W.km_in_of Y) ?F fun _ _ _ _ _ z => z
  case F =>
    intro w mg fa h Y KX G hmg tabs
    refine' K01.all_mk KX G hmg ?aC0 ?aC1 ?aC2 ?aC3 ?aC4 ?a0 ?l0 ?d0 ?k0 ?a1 ?l1 ?d1 ?k1 ?a2 ?l2 ?d2 ?k2 ?a3 ?l3 ?d3 ?k3 ?a4 ?l4 ?d4 ?k4 ?a5 ?l5 ?d5 ?k5 ?a6 ?l6 ?d6 ?k6 ?a7 ?l7 ?d7 ?k7 ?a8 ?l8 ?d8 ?k8 ?a9 ?l9 ?d9 ?k9 ?a10 ?l10 ?d10 ?k10 ?a11 ?l11 ?d11 ?k11 ?a12 ?l12 ?d12 ?k12 ?a13 ?l13 ?d13 ?k13 ?a14 ?l14 ?d14 ?k14 ?a15 ?l15 ?d15 ?k15 ?a16 ?l16 ?d16 ?k16 ?a17 ?l17 ?d17 ?k17 ?a18 ?l18 ?d18 ?k18 ?a19 ?l19 ?d19 ?k19 ?a20 ?l20 ?d20 ?k20 ?a21 ?l21 ?d21 ?k21 ?a22 ?l22 ?d22 ?k22 ?a23 ?l23 ?d23 ?k23 ?a24 ?l24 ?d24 ?k24 ?a25 ?l25 ?d25 ?k25 ?a26 ?l26 ?d26 ?k26 ?a27 ?l27 ?d27 ?k27 ?a28 ?l28 ?d28 ?k28 ?a29 ?l29 ?d29 ?k29 ?a30 ?l30 ?d30 ?k30 ?a31 ?l31 ?d31 ?k31 ?a32 ?l32 ?d32 ?k32 ?a33 ?l33 ?d33 ?k33 ?a34 ?l34 ?d34 ?k34 ?a35 ?l35 ?d35 ?k35 ?a36 ?t36 ?l36 ?d36 ?k36 ?xL2 ?v2 ?bKeyError ?a37 ?t37 ?l37 ?d37 ?k37 ?xL3 ?v3 ?bIndexError ?mm0 ?mm1 ?tI ?eSS ?eNS ?eNN ?eIS ?eIN ?eIF ?eWS ?eWN ?eWF ?kII ?kIW ?kWI ?kWW ?nn ?gL ?gP ?gS ?yM ?zM ?nTM ?yS ?zS ?nTS ?yL ?zL ?nTL ?dMS ?dML ?dSL ?tabs
    (case aC0 => k_is)
    (case aC1 => k_is)
    (case aC2 => k_is)
    (case aC3 => k_is)
    (case aC4 => k_is)
    (case a0 => k_is)
    (case l0 => k_is)
    (case d0 => k_is)
    (case k0 => k_is)
    (case a1 => k_is)
    (case l1 => k_is)
    (case d1 => k_is)
    (case k1 => k_is)
    (case a2 => k_is)
    (case l2 => k_is)
    (case d2 => k_is)
    (case k2 => k_is)
    (case a3 => k_is)
    (case l3 => k_is)
    (case d3 => k_is)
    (case k3 => k_is)
    (case a4 => k_is)
    (case l4 => k_is)
    (case d4 => k_is)
    (case k4 => k_is)
    (case a5 => k_is)
    (case l5 => k_is)
    (case d5 => k_is)
    (case k5 => k_is)
    (case a6 => k_is)
    (case l6 => k_is)
    (case d6 => k_is)
    (case k6 => k_is)
    (case a7 => k_is)
    (case l7 => k_is)
    (case d7 => k_is)
    (case k7 => k_is)
    (case a8 => k_is)
    (case l8 => k_is)
    (case d8 => k_is)
    (case k8 => k_is)
    (case a9 => k_is)
    (case l9 => k_is)
    (case d9 => k_is)
    (case k9 => k_is)
    (case a10 => k_is)
    (case l10 => k_is)
    (case d10 => k_is)
    (case k10 => k_is)
    (case a11 => k_is)
    (case l11 => k_is)
    (case d11 => k_is)
    (case k11 => k_is)
    (case a12 => k_is)
    (case l12 => k_is)
    (case d12 => k_is)
    (case k12 => k_is)
    (case a13 => k_is)
    (case l13 => k_is)
    (case d13 => k_is)
    (case k13 => k_is)
    (case a14 => k_is)
    (case l14 => k_is)
    (case d14 => k_is)
    (case k14 => k_is)
    (case a15 => k_is)
    (case l15 => k_is)
    (case d15 => k_is)
    (case k15 => k_is)
    (case a16 => k_is)
    (case l16 => k_is)
    (case d16 => k_is)
    (case k16 => k_is)
    (case a17 => k_is)
    (case l17 => k_is)
    (case d17 => k_is)
    (case k17 => k_is)
    (case a18 => k_is)
    (case l18 => k_is)
    (case d18 => k_is)
    (case k18 => k_is)
    (case a19 => k_is)
    (case l19 => k_is)
    (case d19 => k_is)
    (case k19 => k_is)
    (case a20 => k_is)
    (case l20 => k_is)
    (case d20 => k_is)
    (case k20 => k_is)
    (case a21 => k_is)
    (case l21 => k_is)
    (case d21 => k_is)
    (case k21 => k_is)
    (case a22 => k_is)
    (case l22 => k_is)
    (case d22 => k_is)
    (case k22 => k_is)
    (case a23 => k_is)
    (case l23 => k_is)
    (case d23 => k_is)
    (case k23 => k_is)
    (case a24 => k_is)
    (case l24 => k_is)
    (case d24 => k_is)
    (case k24 => k_is)
    (case a25 => k_is)
    (case l25 => k_is)
    (case d25 => k_is)
    (case k25 => k_is)
    (case a26 => k_is)
    (case l26 => k_is)
    (case d26 => k_is)
    (case k26 => k_is)
    (case a27 => k_is)
    (case l27 => k_is)
    (case d27 => k_is)
    (case k27 => k_is)
    (case a28 => k_is)
    (case l28 => k_is)
    (case d28 => k_is)
    (case k28 => k_is)
    (case a29 => k_is)
    (case l29 => k_is)
    (case d29 => k_is)
    (case k29 => k_is)
    (case a30 => k_is)
    (case l30 => k_is)
    (case d30 => k_is)
    (case k30 => k_is)
    (case a31 => k_is)
    (case l31 => k_is)
    (case d31 => k_is)
    (case k31 => k_is)
    (case a32 => k_is)
    (case l32 => k_is)
    (case d32 => k_is)
    (case k32 => k_is)
    (case a33 => k_is)
    (case l33 => k_is)
    (case d33 => k_is)
    (case k33 => k_is)
    (case a34 => k_is)
    (case l34 => k_is)
    (case d34 => k_is)
    (case k34 => k_is)
    (case a35 => k_is)
    (case l35 => k_is)
    (case d35 => k_is)
    (case k35 => k_is)
    (case a36 => k_is)
    (case t36 => k_is)
    (case l36 => k_is)
    (case d36 => k_is)
    (case k36 => k_is)
    (case xL2 => k_is)
    (case v2 => kernel_rfl)
    (case bKeyError => k_is)
    (case a37 => k_is)
    (case t37 => k_is)
    (case l37 => k_is)
    (case d37 => k_is)
    (case k37 => k_is)
    (case xL3 => k_is)
    (case v3 => kernel_rfl)
    (case bIndexError => k_is)
    (case mm0 => kernel_rfl)
    (case mm1 => kernel_rfl)
    (case tI => k_is)
    (case eSS => kernel_rfl)
    (case eNS => kernel_rfl)
    (case eNN => kernel_rfl)
    (case eIS => kernel_rfl)
    (case eIN => kernel_rfl)
    (case eIF => kernel_rfl)
    (case eWS => kernel_rfl)
    (case eWN => kernel_rfl)
    (case eWF => kernel_rfl)
    (case kII => kernel_rfl)
    (case kIW => kernel_rfl)
    (case kWI => kernel_rfl)
    (case kWW => kernel_rfl)
    (case nn => kernel_rfl)
    (case gL => k_is)
    (case gP => k_is)
    (case gS => k_is)
    (case yM => k_is)
    (case zM => exact rfl)
    (case nTM => first | kernel_rfl | exact rfl)
    (case yS => k_is)
    (case zS => exact rfl)
    (case nTS => first | kernel_rfl | exact rfl)
    (case yL => k_is)
    (case zL => exact rfl)
    (case nTL => first | kernel_rfl | exact rfl)
    (case dMS => decide)
    (case dML => decide)
    (case dSL => decide)
    (case tabs => (intro x f c P oc oc2 od od2 fd osl osl2 vs hx e1 e2 e3 e4 e5; simp only [K01.tabNames, List.mem_cons, List.not_mem_nil, or_false] at hx; rcases hx with rfl | rfl | rfl <;> exact tabs _ _ _ _ rfl (LamX.tabIn_of e1 e2 e3 e4 e5)))

