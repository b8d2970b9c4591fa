import PyProof.Rows.All
import Wide.All
import OpenK.AllK
import Wide.FinOn
import HandS.ForMost
import HandS.IsInst
import HandS.Rev
import PyProof.ReprRoads
import PyProof.CallFns
import HandS.EndBits
import HandS.Zip0
import HandS.Walk
import PyProof.Draws
import HandS.More
import HandS.WrittenGet
import HandS.Defaults
import HandS.Wide
import HandS.Conv
import HandS.TupAny
import HandS.Codes
import PyProof.ReprBulk
import HandS.Style
import HandS.NoneIn
import HandS.SortInts
import PySem.Challenge.RW_ringorders_k06_rows_on_lines
set_option Elab.async false
set_option linter.all false
set_option maxRecDepth 100000
set_option maxHeartbeats 4000000
/-! Ringorders, the ground: promises of defs around which no repr runs, calls by keywords alone, repr of data. -/
namespace RO
open PySem PySem.Spec PyProof.Rows L2

/-- what a def keeps where nothing guards a repr around it -/
structure GOk (P : Program) (w : World) (K : PySem.W.Frag) (mg : Str → Option Value) (base : Heap) (CX : CXT) (k : Nat) (f : Addr) (fd : FuncData) (ps : List Str) (sp : Sp) : Prop where
  many : ∀ vs H Q E, sp vs H Q E → vs.length = ps.length
  runs : ∀ (A : Around) (out : List Env) (s : Shared) (H : Hp) (as : Args) (us : List Value) (vs : List V) (Q : VK) (E : XK),
    Room k A → A.guards = some [] → Env0 P w K mg base A out s H → BindsTo s fd as (ps.zip us) → Vals vs us → sp vs H Q E →
      codeAny (model P w) A (.call (.ref f) as) (CR CX out P w H s Q E) s

section
variable {P : Program} {w : World} {K : PySem.W.Frag} {mg : Str → Option Value} {base : Heap}

theorem GOk.of {CX : CXT} {k : Nat} {f : Addr} {fd : FuncData} {ps : List Str} {sp : Sp} (F : FnOk P w K mg base CX k f fd ps sp) : GOk P w K mg base CX k f fd ps sp :=
  { many := F.len
    runs := fun A out s H as us vs Q E hr _ => F.run A out s H as us vs Q E hr }
theorem GOk.up {CX : CXT} {j k : Nat} {f : Addr} {fd : FuncData} {ps : List Str} {sp : Sp} (F : GOk P w K mg base CX j f fd ps sp) (h : j ≤ k) : GOk P w K mg base CX k f fd ps sp :=
  { many := F.many
    runs := fun A out s H as us vs Q E hr => F.runs A out s H as us vs Q E (Room.mono hr h) }

/-- a def by its body, nothing guarding a repr -/
theorem GOk.body {x qual : Str} {st : Stmt} {f : Addr} {fd : FuncData} {N ps : List Str} {k : Nat} {sp : Sp} (F : Fun K x qual st f fd) (S : FnScope N ps (defScope st))
    (many : ∀ vs H Q E, sp vs H Q E → vs.length = ps.length)
    (hb : ∀ (cdv : Value) (A : Around) (out : List Env) (s : Shared) (H : Hp) (vs : List V) (Q : VK) (E : XK),
      Room k (A.deeper (envOfC qual (defScope st) s.heap.objs.size f cdv)) → A.guards = some [] → sp vs H Q E →
        ∃ t, PSs (cxOf CX0 P w K mg base N qual (defScope st) f cdv A out s H E).nox (defBody st) t ∧ t { nx := fun _ H' => Q .non H', rt := Q } (start N vs) H) :
    GOk P w K mg base CX0 (k + 1) f fd ps sp := by
  obtain ⟨oc, od, kV, doc, pm, an, cdv, ct, osl, e, lk, hcd⟩ := F.ex
  subst e
  constructor
  · exact many
  · intro A out s H as us vs Q E hr hG e0 hbd r hsp
    have h0 := many _ _ _ _ hsp
    have old : ∀ b o, base.get? b = some o → s.heap.get? b = some o := fun b o z => (e0.bs b o z).1
    have hK : K.In s.heap := e0.mod.kin.keeps old
    have hL : s.heap.NoLimit := e0.mod.nolimit.keeps old
    have kinds : ∀ y ∈ ps.zip us, (defScope st).names.lookup y.1 = some .local ∨
        ((defScope st).names.lookup y.1 = some .cell ∧ ((cellsFrom (s.heap.objs.size + 1) (defScope st).names []).lookup y.1).isSome = true) := by
      intro y hy
      cases S.par y.1 (List.of_mem_zip (show (y.1, y.2) ∈ ps.zip us from hy)).1 with
      | inl z => exact Or.inl z
      | inr z => exact Or.inr ⟨z, PySem.W.cellsFrom_some _ _ _ (Or.inl z)⟩
    apply codeAny_call_function hr.depth (hK _ _ lk) rfl S.co S.gen rfl (PySem.W.codeRec_of hK hcd)
    apply hbd
    apply wpAny_newFunctionEnv_cells S.kind kinds
    intro env he s1 x
    subst he
    refine ⟨hL.keeps x.toInCall.keep, codeAny_func ?_⟩
    obtain ⟨t, ht, hq⟩ := hb cdv A out s H vs Q E (hr.deeper _) hG hsp
    have J0 := inv_start (E := E) S hr.hd e0 h0 r x (CX := CX0)
    have done : ∀ {σ' : L2.St} {H' : Hp} {v : V} {u : Value} {s' : Shared}, Inv (cxOf CX0 P w K mg base N qual (defScope st) f cdv A out s H E) [] σ' H' s' → RelV v u → Q v H' → CE out P w H s Q u s' :=
      fun {σ' H' v u s'} J rv q => ⟨v, H', J.os, J.bare, J.base, J.hok, rv, q⟩
    apply wpAny_mono (ht.nox.run [] s1 (start N vs) H _ J0 hq)
    · intro fl s' hs
      match fl, hs with
      | .ret u, ⟨v, σ', H', J, rv, q⟩ => exact done J rv q
      | .next, ⟨σ', H', J, q⟩ => exact done (v := V.non) (u := Value.none) J rfl q
      | .brk, ⟨_, _, _, q⟩ => exact q.elim
      | .cont, ⟨_, _, _, q⟩ => exact q.elim
    · exact fun _ _ hs => hs
end

section
variable {X : Cx} {CX : CXT} {k : Nat} {f C : Addr} {fd : FuncData} {ps ks : List Str} {sp : Sp} {dvs : List V} {ds : List Value} {E : XK} {x m : Str} {p pos : Pos} {e o : Expr} {es : List Expr} {kws : List Keyword} {te ta : TE} {t tk : TA}

theorem GOk.goes {pins : List (Addr × Obj)} {σ : L2.St} {H : Hp} {s : Shared} {Q : VK} {as : Args} {us : List Value} {vs : List V} (F : GOk X.prog X.w X.K X.mg X.base CX k f fd ps sp) (hr : Room k X.A) (hG : X.A.guards = some []) (hx : Passes CX X E)
    (hb : BindsTo s fd as (ps.zip us)) (I : Inv X pins σ H s) (r : Vals vs us) (h : sp vs H Q E) : codeAny (model X.prog X.w) X.A (.call (.ref f) as) (fun r s' => match r with | .ok (.ret u) => EP X pins σ Q u s' | .ok _ => False | .error e => X.xe e s') s := by
  apply codeAny_mono (F.runs X.A X.stack s H as us vs Q E hr hG I.env0 hb r h)
  intro r s' hq
  match r, hq with
  | .error e, hq => exact hx pins σ H s e s' I hq
  | .ok (.ret u), hq => exact I.after hq
  | .ok .next, hq => exact hq.elim
  | .ok .brk, hq => exact hq.elim
  | .ok .cont, hq => exact hq.elim

/-- f(e, ..) where f keeps its promise if no repr is guarded -/
theorem pe_callG (F : GOk X.prog X.w X.K X.mg X.base CX k f fd ps sp) (hr : Room k X.A) (hG : X.A.guards = some []) (hg : Gl X x) (hm : X.mg x = some (.ref f)) (hk : PySem.W.keepIn X.K (.ref f) = true) (hb : Binds X.K fd ps ds) (hd : Vals dvs ds) (hx : Passes CX X E)
    (ha : PA X (e :: es) t) (hdb : (x == ("__debug__" : Str)) = false := by decide) (he : starEach (e :: es) X.env = (false, eval e X.env) :: starEach es X.env := by rfl)
    (hpl : (backTo pos (starEach es X.env)).any (·.1) = false := by rfl) : PE X (.Call (.Name x p) (e :: es) [] pos) (tCall sp dvs E t) := by
  constructor
  intro pins s σ H Q I h
  apply wpAny_Call_Name_kw
  apply ld_glob I hg hm _ hdb
  apply PySem.W.callWith_K (h₀ := X.base) I.ok.mod.kin hk _ he hpl
  apply thn (ha.run pos pins s σ H _ I h)
  rintro us s1 ⟨vs, H1, I1, r, q⟩
  refine ⟨I1.kIn, ?_⟩
  have r2 : Vals (vs ++ dvs) (us ++ ds) := r.append hd
  have hl : (us ++ ds).length = ps.length := r2.length.symm.trans (F.many _ _ _ _ q)
  show wpAny _ _ (call (.ref f) us) _ _ s1
  exact wpAny_call (codeAny_mono (F.goes hr hG hx (hb s1 us I1.kIn hl) I1 r2 q) fun r s' hq => by
    match r, hq with
    | .error e, hq => exact hq
    | .ok (.ret u), hq => exact hq)

/-- f(k = v, ..), nothing by place -/
theorem pe_callK0 {g : List Value → List Value → List Value} {gV : List V → List V → List V} (F : FnOk X.prog X.w X.K X.mg X.base CX k f fd ps sp) (hr : Room k X.A) (hg : Gl X x) (hm : X.mg x = some (.ref f)) (hk : PySem.W.keepIn X.K (.ref f) = true)
    (hb : KBinds X.K fd ps ks g gV) (hx : Passes CX X E) (hkw : PK X kws tk) (hall : (backToKw pos (keywordEach kws X.env)).all (·.1.isSome) = true := by rfl) (hks : (backToKw pos (keywordEach kws X.env)).filterMap (·.1) = ks := by rfl)
    (hdb : (x == ("__debug__" : Str)) = false := by decide)
    (hpl : ((backTo pos (starEach [] X.env)).any (·.1) || (backToKw pos (keywordEach kws X.env)).any (·.1.isNone)) = false := by rfl) :
    PE X (.Call (.Name x p) [] kws pos) (tCallK sp gV E tNil tk) := by
  constructor
  intro pins s σ H Q I h
  apply wpAny_Call_Name_kw
  apply ld_glob I hg hm _ hdb
  apply PySem.W.callWith_KW0 (h₀ := X.base) I.ok.mod.kin hk hall _ hpl
  apply thn (hkw.run pos pins s σ H _ I h)
  rintro ws s1 ⟨zs, H1, I1, rz, q⟩
  refine ⟨I1.kIn, ?_⟩
  rw [hks]
  exact run_fnk (us := []) F hr hb hx I1 .nil rz q

/-! ### repr -/
/-- repr of data -/
def rRepr (K : PySem.W.Frag) : List V → Hp → VK → Prop := fun xs H Q => ∃ v d, xs = [v] ∧ Dp K H v d ∧ PyData.showable d = true ∧ d.hasDict = false ∧ d.depth ≤ 40 ∧ d.shown.length ≤ sizeLine ∧ Q (.str d.shown) H
theorem call_repr (hG : X.A.guards = some []) (hu : X.A.units + 64 < cLine) : CallR X (.builtin "repr") (rRepr X.K) := by
  intro pins s σ H xs us Q I r h
  obtain ⟨v, d, rfl, hd, hs, hn, h40, hz, q⟩ := h
  obtain ⟨u, rfl, ru⟩ := vals1 r
  have fin : ∀ (h' : Heap) (tk : Nat) (u : Tok), (∀ b o, s.heap.get? b = some o → h'.get? b = some o) → EP X pins σ Q (.str d.shown u) { s with heap := h', toks := tk } :=
    fun h' tk u hk => ⟨.str d.shown, H, I.un (Un.kept hk) (I.hok.kept hk), ⟨u, rfl⟩, q⟩
  obtain ⟨as, rd⟩ := Dp.reads I d v u hd ru
  cases hd with
  | non =>
    cases ru
    exact P.repr_of_none (fin s.heap _ _ fun _ _ z => z)
  | bl b =>
    cases ru
    refine P.repr_of_bool ?_
    have z := fin s.heap (s.toks + 1) s.toks fun _ _ z => z
    cases b <;> exact z
  | int i =>
    obtain ⟨t, rfl⟩ := ru
    refine P.repr_of_int ?_ ?_
    · simpa [PyData.showable] using hs
    · have z := fin s.heap (s.toks + 1) s.toks fun _ _ z => z
      simpa [PyData.shown] using z
  | str x =>
    obtain ⟨t, rfl⟩ := ru
    have z := fin s.heap (s.toks + 1) s.toks fun _ _ z => z
    simp only [PyData.shown_str] at z hz
    exact P.repr_of_str z hz
  | lst h1 h2 =>
    cases ru
    exact repr_of_reads' rd hs (PyData.noDict_hsm hn) hG (by omega) (fun _ _ z => z) (fun h' u tk hk => fin h' tk u hk) hz
  | tup h1 h2 =>
    cases ru
    exact repr_of_reads' rd hs (PyData.noDict_hsm hn) hG (by omega) (fun _ _ z => z) (fun h' u tk hk => fin h' tk u hk) hz
end
end RO

namespace RO
open PySem PySem.Spec PyProof.Rows L2

/-- the abstract heap at the law's entry: the script alone, locked, where the text itself doesn't hold it -/
def scriptH (K : PySem.W.Frag) (a : Addr) (o : Obj) (ns : List Int) : Hp := fun b => if b = a ∧ K.lookup a = none then some (.frz o (.lst (ns.map V.int))) else none

/-- the law's def is called as TURN's statement calls it -/
theorem law_runs {P : Program} {w : World} {K : PySem.W.Frag} {mg mb : Str → Option Value} {k : Nat} {fa a : Addr} {fd : FuncData} {x : Str} {sp : Sp} {s1 : Shared} {vs : List Value} {ns : List Int}
    (hK : K.In s1.heap) (hm : s1.heap.Ns mainGlobals mg) (hb : s1.heap.Ns builtinsNs mb) (hbb : ∀ y : Str, y ≠ "__name__" → mb y = bootBuiltins y) (hL : s1.heap.NoLimit) (hgn : s1.gens = #[])
    (ha : s1.heap.get? a = some { cls := .type "list", data := .seq vs.toArray }) (hi : IntsAre vs ns) (hn : ns.length ≤ sizeLine) (hr : Room k callerA)
    (F : ∀ base : Heap, K.In base → base.Ns mainGlobals mg → GOk P w K mg base CX0 k fa fd [x] sp) (hbd : ∀ (s : Shared) (u : Value), BindsTo s fd ⟨[u], []⟩ [(x, u)])
    (hsp : ∀ H : Hp, Only H → SqL K H a (ns.map V.int) → sp [.ref a] H (fun v _ => v = .bl true) fun _ _ _ => False) :
    codeAny (model P w) callerA (.call (.ref fa) ⟨[.ref a], []⟩) (fun r s' => r = .ok (.ret (.bool true)) ∧ OldK s1.heap s'.heap ∧ s'.os = s1.os ∧ AllBare s'.gens) s1 := by
  let ob : Obj := { cls := .type "list", data := .seq vs.toArray }
  let H : Hp := scriptH K a ob ns
  have hH : ∀ b u, H b = some u → b = a ∧ K.lookup a = none ∧ u = .frz ob (.lst (ns.map V.int)) := by
    intro b u z
    by_cases c : b = a ∧ K.lookup a = none
    · have z2 : (if b = a ∧ K.lookup a = none then some (HO.frz ob (.lst (ns.map V.int))) else none) = some u := z
      rw [if_pos c] at z2
      cases z2
      exact ⟨c.1, c.2, rfl⟩
    · have z2 : (if b = a ∧ K.lookup a = none then some (HO.frz ob (.lst (ns.map V.int))) else none) = some u := z
      rw [if_neg c] at z2
      cases z2
  have hOnly : Only H := fun b => by
    cases z : H b with
    | none => exact .inl rfl
    | some u => exact .inr ⟨ob, _, congrArg some (hH b u z).2.2⟩
  have rv := vals_ints hi
  have sizes : vs.length = ns.length := hi.length
  have hS : SqL K H a (ns.map V.int) := by
    cases z : K.lookup a with
    | some o =>
      have e := hK a o z
      rw [ha] at e
      cases e
      exact Or.inr ⟨_, vs.toArray, _, z, rfl, rfl, rfl, by rw [List.size_toArray, sizes]; exact hn, by simpa using rv⟩
    | none => exact Or.inl (Or.inr ⟨ob, if_pos ⟨rfl, z⟩⟩)
  have hOk : HOk P w H s1.heap := fun b u z => by
    obtain ⟨e1, _, e3⟩ := hH b u z
    subst e1
    subst e3
    exact ⟨ha, by rw [List.length_map]; exact hn, vs, _, rv, ha⟩
  have stays : ∀ {b : Addr} {o : Obj}, s1.heap.get? b = some o → H b = none → (hidT s1.heap H).get? b = some o := fun e n => hidT_get e n
  have keptK : K.In (hidT s1.heap H) := by
    intro b o z
    refine stays (hK b o z) ?_
    cases q : H b with
    | none => rfl
    | some u =>
      obtain ⟨e1, e2, _⟩ := hH b u q
      rw [e1, e2] at z
      cases z
  have keptN : ∀ {b : Addr} {m : Str → Option Value}, s1.heap.Ns b m → (hidT s1.heap H).Ns b m := by
    rintro b m ⟨o, es, ep, e, d, r⟩
    refine ⟨o, es, ep, stays e ?_, d, r⟩
    cases q : H b with
    | none => rfl
    | some u =>
      obtain ⟨e1, _, _⟩ := hH b u q
      rw [e1, ha] at e
      cases e
      exact nomatch (show Data.seq vs.toArray _ = Data.dict es ep from d)
  obtain ⟨mc, l1, l2⟩ := hL
  have start0 : Env0 P w K mg (hidT s1.heap H) callerA [] s1 H :=
    { frames := rfl
      mod := ⟨keptK, keptN hm, ⟨mb, keptN hb, hbb⟩, ⟨mc, keptN l1, l2⟩⟩
      bs := fun _ _ z => of_hidT z
      bsz := Nat.le_of_eq (hidT_size _ _)
      funs := trivial
      frf := fun b z => absurd (show b ∈ ([] : List Addr) from z) (by simp)
      hok := hOk
      bare := .of_eq hgn }
  apply codeAny_mono ((F _ keptK (keptN hm)).runs callerA [] s1 H ⟨[.ref a], []⟩ [.ref a] [.ref a] _ _ hr rfl start0 (hbd s1 (.ref a)) (.cons rfl .nil) (hsp H hOnly hS))
  intro r s' h
  match r, h with
  | .error _, h => exact h.elim
  | .ok .next, h => exact h.elim
  | .ok .brk, h => exact h.elim
  | .ok .cont, h => exact h.elim
  | .ok (.ret u), ⟨v, H', os, bare, un, hok', r', q⟩ =>
    have q' : v = .bl true := q
    subst q'
    have r2 : u = Value.bool true := r'
    subst r2
    refine ⟨rfl, OldK.of_keep fun b o e => ?_, os, bare⟩
    cases q : H b with
    | none => exact un.keep b o e q (by intro z; exact absurd (show b ∈ ([] : List Addr) from z) (by simp)) (by simp)
    | some t =>
      have q2 := q
      rw [(hH b t q).2.2] at q2
      have f1 := (hOk b _ q2).1
      have f2 := (hok' b _ (un.frzs b ob _ q2)).1
      rw [e] at f1
      rw [f2, f1]

/-- the goal behind the head, from the law's promise; the script's bits told -/
theorem walk_G {l : PySem.W.OpenLaw} {n k : Nat} {q : Program} {loose : List Str} {XP : (Str → Option Value) → Heap → Prop} {YP : World → Heap → Prop} {d : DefRec} {K : Params → PySem.W.Frag} {sp : PySem.W.Frag → Sp} {x : Str}
    (hn : l.most = some n) (hn2 : n ≤ sizeLine) (hdf : d.params.defaults = []) (hr : Room k callerA) (hY : ∀ (w : World) (h : Heap), YP w h → (K w.params).In h)
    (F : ∀ (w : World) (mg : Str → Option Value) (fa : Addr) (h : Heap), (K w.params).In h → h.Ns mainGlobals mg → mg d.name = some (.ref fa) →
      ∃ fd : FuncData, (∀ (s : Shared) (u : Value), BindsTo s fd ⟨[u], []⟩ [(x, u)]) ∧ ∀ base : Heap, (K w.params).In base → base.Ns mainGlobals mg → GOk l.prog w (K w.params) mg base CX0 k fa fd [x] (sp (K w.params)))
    (hsp : ∀ (K : PySem.W.Frag) (H : Hp) (a : Addr) (ns : List Int), ns.length ≤ n → (∀ k ∈ ns, Builtin.Int.intBits k ≤ 1048576) → Only H → SqL K H a (ns.map V.int) → sp K [.ref a] H (fun v _ => v = .bl true) fun _ _ _ => False) :
    PySem.W.WalkO q loose XP YP l.row.toRowW d [] (fun f vs => PySem.call f vs) := by
  apply Att.attach_callB hn hdf
  intro w s0 s1 mg mb fa o pm cd doc a vs ns G Y ho hd hcd hmg hobj hints hlen hbits hg
  have hK := hY w _ Y
  obtain ⟨fd, hb, hF⟩ := F w mg fa _ hK G.T.g hmg
  exact law_runs hK G.T.g G.T.b G.T.builtins G.T.nolimit hg hobj hints (Nat.le_trans hlen hn2) hr hF hb fun H hO hS => hsp (K w.params) H a ns hlen hbits hO hS
end RO

namespace RO
open PySem PySem.Spec PyProof.Rows L2

/-! ### enumerate of a tuple -/
theorem drawsT {prog : Program} {w : World} {A : Around} (hh : A.handled = none) (it t : Addr) (hne : t ≠ it) (items : Array Value) :
    Draws prog w A it [it, t] items.size (fun i v => items[i]? = some v) (fun i h => h.IsTupleIter it t i ∧ h.IsTuple t items) where
  live := fun _ _ st => by
    obtain ⟨⟨o, ho, _⟩, _⟩ := st
    exact ⟨o, ho⟩
  frame := fun i h h' st hk => ⟨Heap.IsTupleIter.at st.1 (hk it (List.mem_cons_self ..)), by
    obtain ⟨o, e, r⟩ := st.2
    exact ⟨o, hk t (by simp) o e, r⟩⟩
  item := fun i s Q E hi st hQ => RZ.nextOf_tuple_item st.1 st.2 (x := items[i]) (by simp [hi]) fun h' hit' sb =>
    hQ _ h' s.toks (by simp [hi]) ⟨hit', by
      obtain ⟨o, e, r⟩ := st.2
      exact ⟨o, (sb.2 t hne).trans e, r⟩⟩ sb
  done := fun s Q E st hE => RZ.nextOf_tuple_end hh st.1 st.2 (by simp) hE

open Sem (wp) in
open AutoSeq1 (wpAny_loadPart') in
theorem meets_enum_newT (l : Addr) (items : Array Value) (n : Nat) (dct : Option Addr) (sl : Array (Option Value)) :
    Meets (Builtin.«enumerate.__new__» ⟨[.type "enumerate", .ref l], []⟩) (fun _ R s => s.heap.get? l = some { cls := .type "tuple", dict := dct, data := .seq items n, slots := sl } ∧
      R (.ok (.ret (.ref (s.heap.push { cls := .type "tuple_iterator", data := .fields #[.ref l, .int 0 0] }).objs.size)))
        { s with heap := (s.heap.push { cls := .type "tuple_iterator", data := .fields #[.ref l, .int 0 0] }).push { cls := .type "enumerate", data := .fields #[.none, .bool false, .ref s.heap.objs.size, rawInt 0, .none, .none] } }) := by
  refine Meets.of_wp fun prog w A R s h => ?_
  obtain ⟨hp, g, d, tk, os⟩ := s
  obtain ⟨hl, h⟩ := h
  have hsub := sub_enumerate
  have hT : Heap.IsTuple (Shared.heap ⟨hp, g, d, tk, os⟩) l items := ⟨_, hl, rfl, n, rfl⟩
  wp_walk using wpAny_loadPart' hl
  refine wpAny_stack_any fun st => wpAny_pure ?_
  split
  · rename_i c _ _ _ _ _
    cases (c == Value.type "enumerate") <;>
      (wp_walk using wpAny_loadPart' hl, wpAny_pyIter_tuple hT; exact ⟨_, rfl, h⟩)
  · wp_walk using wpAny_loadPart' hl, wpAny_pyIter_tuple hT
    exact ⟨_, rfl, h⟩

theorem call_enumT {prog : Program} {w : World} {A : Around} {E : Value → Shared → Prop} {s : Shared} {l : Addr} {items : Array Value} {Q : Value → Shared → Prop} (hT : s.heap.IsTuple l items)
    (h : ∀ h', IsEnum h' (s.heap.objs.size + 1) s.heap.objs.size 0 .none → h'.IsTupleIter s.heap.objs.size l 0 → h'.objs.size = s.heap.objs.size + 2 → (∀ b o, s.heap.get? b = some o → h'.get? b = some o) →
      Q (.ref (s.heap.objs.size + 1)) { s with heap := h' }) : wpAny (model prog w) A (call (.type "enumerate") [.ref l]) Q E s := by
  obtain ⟨⟨c, dct, dt, sl⟩, hl, hc, n, hd⟩ := hT
  have hc' : c = .type "tuple" := hc
  have hd' : dt = .seq items n := hd
  subst hc' hd'
  apply callType_new F.called_enumerate (by decide) (F.typeCall_enumerate_1 _) (F.newCall_enumerate_1 _) (fun obj => F.args_object_init_2 obj _) F.entry_enumerate_new (meets_enum_newT l items n dct sl)
  refine ⟨hl, ?_⟩
  let h1 := s.heap.push { cls := .type "tuple_iterator", data := .fields #[.ref l, .int 0 0] }
  have hz : h1.objs.size = s.heap.objs.size + 1 := Heap.size_push ..
  show _ ∧ _
  rw [show (s.heap.push { cls := .type "tuple_iterator", data := .fields #[.ref l, .int 0 0] }).objs.size = s.heap.objs.size + 1 from hz]
  have he : IsEnum (h1.push { cls := .type "enumerate", data := .fields #[.none, .bool false, .ref s.heap.objs.size, rawInt 0, .none, .none] }) (s.heap.objs.size + 1) s.heap.objs.size 0 .none := by
    have z := Heap.get?_push_size h1 (o := { cls := .type "enumerate", data := .fields #[.none, .bool false, .ref s.heap.objs.size, rawInt 0, .none, .none] }) rfl
    rw [hz] at z
    exact z
  exact ⟨⟨_, he, rfl⟩, h _ he ⟨_, Heap.get?_push_of_some _ (Heap.get?_push_size _ rfl), rfl, rfl⟩ ((Heap.size_push ..).trans (congrArg (· + 1) hz)) fun b o x => Heap.get?_push_of_some _ (Heap.get?_push_of_some _ x)⟩

/-- the tuple at a, each item in a new pair with its number -/
def IteT (K : PySem.W.Frag) (a : Addr) : It where
  go := fun i H => ∃ (xs : List V) (x : V), SqT K H a xs ∧ xs[i]? = some x
  yld := fun i H v H' => ∃ T x, v = .ref T ∧ H T = none ∧ H' = upd H T (.tup [.int (i : Nat), x]) ∧ ∀ xs, SqT K H a xs → xs[i]? = some x
  stop := fun i H => ∃ xs : List V, SqT K H a xs ∧ xs.length = i

theorem turn_enumT {P : Program} {w : World} {K : PySem.W.Frag} {elts : List Expr} {kk : Nat} {tpos : Pos} (a e it : Addr) (hae : a ≠ e) (hai : a ≠ it) (hne : e ≠ it) :
    Turn P w K (.Tuple elts kk tpos) (IteT K a) [e, it] e (fun i h => (∃ old, IsEnum h e it ((i : Nat) : Int) old) ∧ h.IsTupleIter it a i) where
  mem := List.mem_cons_self ..
  obj := fun i h st b hb => by
    obtain ⟨⟨old, he⟩, ⟨o, ho, hc, hd⟩⟩ := st
    rcases List.mem_cons.mp hb with z | z
    · rw [z]
      exact ⟨_, he, fun v q => nomatch q⟩
    · have z' : b = it := by simpa using z
      exact ⟨o, z' ▸ ho, fun v q => by rw [hd] at q; cases q⟩
  keep := fun i h h' st k => by
    obtain ⟨⟨old, he⟩, hi⟩ := st
    exact ⟨⟨old, k e (by simp) _ he⟩, Heap.IsTupleIter.at hi (k it (by simp))⟩
  item := by
    intro X hP hw hK hc i pins s σ H E I hf st hg
    subst hP hw hK
    obtain ⟨⟨old, he⟩, hit⟩ := st
    obtain ⟨xs, x, hq, hx⟩ := hg
    obtain ⟨its, rv, p, hz⟩ := I.tuple hq
    obtain ⟨u, hu, ru⟩ := rv.get hx
    have hlt : i < its.toArray.size := by
      obtain ⟨z, _⟩ := List.getElem?_eq_some_iff.mp hu
      simpa using z
    have hel : e < s.heap.objs.size := Heap.lt_size he
    have hil : it < s.heap.objs.size := by
      obtain ⟨_, q, _⟩ := hit
      exact Heap.lt_size q
    refine wpAny_pyNext_enum_itemD (drawsT (A := X.A.in1) (I.ok.hd hc) it a hai its.toArray) he ⟨hit, p⟩ hlt hne (by simp [hne, Ne.symm hae]) fun y h' tk hy ho hst hT hsz hk => ?_
    have ey : y = u := by
      have z : its.toArray[i]? = some u := by simpa using hu
      exact Option.some.inj (hy.symm.trans z)
    subst ey
    refine ⟨_, rfl, wpAny_letOwnedTupleGo_enum (s := { s with heap := h', toks := tk + 1 }) ho fun h2 he2 sb => ?_⟩
    have hT2 : h2.get? s.heap.objs.size = some { cls := .type "tuple", data := .seq #[.int i tk, y] } := (sb.2 _ (Nat.ne_of_gt hel)).trans hT
    have new : ObjOk X.prog X.w (upd H s.heap.objs.size (.tup [.int (i : Nat), x])) h2 s.heap.objs.size (.tup [.int (i : Nat), x]) := by
      refine ⟨by show 2 ≤ sizeLine; decide, [.int i tk, y], .cons ⟨_, rfl⟩ (.cons ru .nil), ⟨_, hT2, rfl, _, rfl⟩⟩
    have I1 : Inv X pins σ (upd H s.heap.objs.size (.tup [.int (i : Nat), x])) { s with heap := h2, toks := tk + 1 } := by
      refine I.turnedNew (ch := [e, it]) (fun b ob hb q => ?_) hf (Nat.le_refl _) new
      have n1 : b ≠ e := fun z => hb (by simp [z])
      have n2 : b ≠ it := fun z => hb (by simp [z])
      exact (sb.2 b n1).trans (hk b ob n1 n2 q)
    refine ⟨.ref s.heap.objs.size, _, I1, rfl, ⟨_, x, rfl, I.hok.fresh (Nat.le_refl _), rfl, fun ys hy => (I.tuple_inj hy hq).symm ▸ hx⟩, ⟨⟨y, ?_⟩, Heap.IsTupleIter.at hst.1 fun o q => (sb.2 it (Ne.symm hne)).trans q⟩, fun b hb => ?_⟩
    · rw [show ((i + 1 : Nat) : Int) = (i : Int) + 1 from by omega]
      exact he2
    · have hb2 : b = e ∨ b = it := by simpa using hb
      have lt : b < s.heap.objs.size := hb2.elim (fun z => z ▸ hel) fun z => z ▸ hil
      exact (upd_ne (Nat.ne_of_lt lt)).trans (hf b hb).1
  done := by
    intro X hP hw hK hc i pins s σ H E I hf st hg
    subst hP hw hK
    obtain ⟨⟨old, he⟩, hit⟩ := st
    obtain ⟨xs, hq, hx⟩ := hg
    obtain ⟨its, rv, p, hz⟩ := I.tuple hq
    obtain ⟨f0, f1, f2, f3, f4, f5⟩ := hf it (by simp)
    have hl : its.toArray.size = i := by
      rw [List.size_toArray, ← rv.length, hx]
    rw [← hl] at hit
    exact wpAny_pyNext_enum_endD (drawsT (A := X.A.in1) (I.ok.hd hc) it a hai its.toArray) he ⟨hit, p⟩ fun h' eb => ⟨rfl, I.turned (t' := s.toks) (fun b o hb q => eb b o hb q) f0 f1 f3 f4 f5⟩
  self := fun A i s Q E st h => by
    obtain ⟨⟨_, he⟩, _⟩ := st
    exact wpAny_pyIter_enum he h

/-- enumerate(x), x a list or a tuple -/
def iEnumA (K : PySem.W.Frag) (ta : TA) : TI := fun σ H R => ta σ H fun vs H1 => ∃ a xs, vs = [.ref a] ∧ ((SqL K H1 a xs ∧ R (Ite K a) H1) ∨ (SqT K H1 a xs ∧ R (IteT K a) H1))
theorem pi_enumA {X : Cx} {e : Expr} {ta : TA} {p pos tpos : Pos} {elts : List Expr} {kk : Nat} (hg : Gl X "enumerate") (hm : X.mg "enumerate" = none) (ha : PA X [e] ta) (hs : starEach [e] X.env = [(false, eval e X.env)] := by rfl) :
    PI X (.Tuple elts kk tpos) (.Call (.Name "enumerate" p) [e] [] pos) (iEnumA X.K ta) := by
  constructor
  intro pins s σ H R I h
  refine Call_ ?_
  apply ld_blt I hg hm boot_enumerate
  apply PyProof.Rows.callWith_type1 _ hs rfl
  apply thn (ha.run pos pins s σ H _ I h)
  rintro us s1 ⟨vs, H1, I1, r1, a, xs, ex, q⟩
  subst ex
  obtain ⟨u, rfl, ru⟩ := vals1 r1
  obtain rfl : u = Value.ref a := ru
  have hle : ∀ b, b ∈ [s1.heap.objs.size + 1, s1.heap.objs.size] → FpOk X pins H1 b := fun b hb => by
    have z : b = s1.heap.objs.size + 1 ∨ b = s1.heap.objs.size := by simpa using hb
    have l : s1.heap.objs.size ≤ b := by omega
    exact I1.fpOk l (I1.hok.fresh l)
  rcases q with ⟨hq, q⟩ | ⟨hq, q⟩
  · obtain ⟨its, rv, p', hz⟩ := I1.list hq
    refine call_enumerate_list p'.isList fun h' he hit hsz hk => wpAny_pyIter_enum he ?_
    exact ⟨s1.heap.objs.size + 1, [s1.heap.objs.size + 1, s1.heap.objs.size], _, _, H1, rfl, I1.kept (t' := s1.toks) hk, turn_enum a (s1.heap.objs.size + 1) s1.heap.objs.size, ⟨⟨.none, he⟩, hit, Nat.succ_ne_self _⟩, hle, q⟩
  · obtain ⟨its, rv, p', hz⟩ := I1.tuple hq
    obtain ⟨o, ho, _⟩ := id p'
    have hal : a < s1.heap.objs.size := Heap.lt_size ho
    refine call_enumT p' fun h' he hit hsz hk => wpAny_pyIter_enum he ?_
    exact ⟨s1.heap.objs.size + 1, [s1.heap.objs.size + 1, s1.heap.objs.size], _, _, H1, rfl, I1.kept (t' := s1.toks) hk, turn_enumT a (s1.heap.objs.size + 1) s1.heap.objs.size (Nat.ne_of_lt (Nat.lt_succ_of_lt hal)) (Nat.ne_of_lt hal) (Nat.succ_ne_self _), ⟨⟨.none, he⟩, hit⟩, hle, q⟩

section
variable {K : PySem.W.Frag} {a : Addr} {xs : List V}
theorem walk_enumT : Walk (IteT K a) xs.length (fun H => SqT K H a xs) (YPair (fun i => some (.int (i : Nat))) (fun i => xs[i]?)) where
  goes := fun i _ hi q => ⟨xs, xs[i], q, by simp [hi]⟩
  stops := fun _ q => ⟨xs, q, rfl⟩
  yields := fun i H v H' _ q y => by
    obtain ⟨T, x, h1, h2, h3, h4⟩ := y
    exact ⟨T, _, x, h1, h2, h3, rfl, h4 xs q⟩
theorem walk_revT : Walk (RT.ItvT K a xs.length) xs.length (fun H => SqT K H a xs) (fun i H x H' => H' = H ∧ xs[xs.length - 1 - i]? = some x) where
  goes := fun i _ hi q => ⟨hi, xs, xs[xs.length - 1 - i], q, by
    have : xs.length - 1 - i < xs.length := by omega
    simp [this]⟩
  stops := fun _ _ => Nat.le_refl _
  yields := fun i H v H' _ q y => ⟨y.1, y.2 xs q⟩
end
end RO

namespace RO
open PySem PySem.Spec PyProof.Rows L2

/-! ### heaps -/
/-- what is tracked, but at p, is kept -/
def But (p : Addr) (H H' : Hp) : Prop := ∀ b o, b ≠ p → H b = some o → H' b = some o
section
variable {K : PySem.W.Frag} {H H0 H1 H2 : Hp} {p q a c l : Addr} {o : HO} {xs : List V} {n m : Nat}
theorem But.refl : But p H H := fun _ _ _ h => h
theorem But.trans (h : But p H H1) (h2 : But p H1 H2) : But p H H2 := fun b u n e => h2 b u n (h b u n e)
theorem But.of_same (h : Same H H1) : But p H H1 := fun b u _ e => h b u e
theorem But.put : But p H (upd H p o) := fun b u n e => (upd_ne n).trans e
theorem But.new (h : But p H0 H) (hq : H q = none) : But p H0 (upd H q o) := fun b u n e => (upd_ne (ne_of_none (h b u n e) hq)).trans (h b u n e)
/-- a place that was free at the beginning may be written -/
theorem But.own (h : But p H0 H) (hl : H0 l = none) : But p H0 (upd H l o) := fun b u n e => (upd_ne (ne_of_none e hl)).trans (h b u n e)
theorem But.rd {u : HO} (h : But p H H1) (n : a ≠ p) (r : Rd H a u) : Rd H1 a u := by
  rcases r with r | ⟨o, r⟩
  · exact .inl (h _ _ n r)
  · exact .inr ⟨o, h _ _ n r⟩
theorem But.seqL (h : But p H H1) (n : a ≠ p) (r : SqL K H a xs) : SqL K H1 a xs := r.imp (h.rd n) id
theorem But.seqT (h : But p H H1) (n : a ≠ p) (r : SqT K H a xs) : SqT K H1 a xs := r.imp (h.rd n) id
theorem same_rd {u : HO} (h : Same H H1) (r : Rd H a u) : Rd H1 a u := by
  rcases r with r | ⟨o, r⟩
  · exact .inl (h _ _ r)
  · exact .inr ⟨o, h _ _ r⟩
theorem same_seqL (h : Same H H1) (r : SqL K H a xs) : SqL K H1 a xs := r.imp (same_rd h) id
theorem same_seqT (h : Same H H1) (r : SqT K H a xs) : SqT K H1 a xs := r.imp (same_rd h) id
theorem same_new (h : Same H0 H) (hq : H q = none) : Same H0 (upd H q o) := fun b u e => (upd_ne (ne_of_none (h b u e) hq)).trans (h b u e)
theorem same_own (h : Same H0 H) (hl : H0 l = none) : Same H0 (upd H l o) := fun b u e => (upd_ne (ne_of_none e hl)).trans (h b u e)

theorem alloc (hl : H l = none) (e : upd H l o = H1) : Same H H1 ∧ H1 l = some o := by
  subst e
  exact ⟨same_new (Same.refl _) hl, upd_same⟩

theorem owned (S : Same H0 H) (hl : H0 l = none) (e : upd H l o = H1) : Same H0 H1 ∧ H1 l = some o := by
  subst e
  exact ⟨same_own S hl, upd_same⟩

/-! ### the law's pen: a list of the script's cells, a place, a rest -/
def PenAt (H : Hp) (p c : Addr) (n : Nat) : Prop := ∃ at_ cy : Int, H p = some (.lst [.ref c, .int at_, .int cy]) ∧ 0 ≤ at_ ∧ at_ ≤ n ∧ 0 ≤ cy
def Cells (K : PySem.W.Frag) (H : Hp) (p c : Addr) : Prop := c ≠ p ∧ ∃ ns : List Int, SqL K H c (ns.map V.int) ∧ ns.length ≤ 63
/-- from H0 to H: the pen at p has gone on to n draws at most, all else is kept -/
structure Go (K : PySem.W.Frag) (p c : Addr) (H0 : Hp) (n : Nat) (H : Hp) : Prop where
  but : But p H0 H
  pen : PenAt H p c n
  cel : Cells K H p c
theorem Cells.but (h : Cells K H p c) (b : But p H H1) : Cells K H1 p c := by
  obtain ⟨ne, ns, r, l⟩ := h
  exact ⟨ne, ns, b.seqL ne r, l⟩
theorem PenAt.mono (h : PenAt H p c n) (hm : n ≤ m) : PenAt H p c m := by
  obtain ⟨i, j, e, h1, h2, h3⟩ := h
  exact ⟨i, j, e, h1, by omega, h3⟩
theorem Go.refl (h : PenAt H p c n) (hc : Cells K H p c) : Go K p c H n H := ⟨But.refl, h, hc⟩
theorem Go.self (g : Go K p c H0 n H) : Go K p c H n H := ⟨But.refl, g.pen, g.cel⟩
theorem Go.mono (g : Go K p c H0 n H) (hm : n ≤ m) : Go K p c H0 m H := ⟨g.but, g.pen.mono hm, g.cel⟩
theorem Go.trans (g : Go K p c H0 n H1) (g2 : Go K p c H1 m H2) : Go K p c H0 m H2 := ⟨g.but.trans g2.but, g2.pen, g2.cel⟩
theorem Go.tracked (g : Go K p c H0 n H) : ∃ o, H p = some o := by
  obtain ⟨_, _, e, _⟩ := g.pen
  exact ⟨_, e⟩
theorem Go.ne_new (g : Go K p c H0 n H) (hq : H q = none) : p ≠ q := by
  obtain ⟨o, e⟩ := g.tracked
  exact ne_of_none e hq
theorem Go.make {i j : Int} (hc : Cells K H0 p c) (b : But p H0 H) (e : H p = some (.lst [.ref c, .int i, .int j])) (h1 : 0 ≤ i) (h2 : i ≤ (n : Nat)) (h3 : 0 ≤ j) : Go K p c H0 n H := ⟨b, ⟨i, j, e, h1, h2, h3⟩, hc.but b⟩
theorem Go.free (g : Go K p c H0 n H) (hq : H q = none) : H0 q = none := by
  cases z : H0 q with
  | none => rfl
  | some o => exact absurd (g.but q o (Ne.symm (g.ne_new hq)) z) (by rw [hq]; exact nofun)
/-- a new object -/
theorem Go.new (g : Go K p c H0 n H) (hq : H q = none) : Go K p c H0 n (upd H q o) := by
  have hp := g.ne_new hq
  obtain ⟨i, j, e, r⟩ := id g.pen
  have b1 : But p H (upd H q o) := But.refl.new hq
  exact ⟨g.but.new hq, ⟨i, j, (upd_ne hp).trans e, r⟩, g.cel.but b1⟩
/-- an own object is written: it was free at the beginning; the cells aren't it -/
theorem Go.own (g : Go K p c H0 n H) (hl : H0 l = none) (hp : l ≠ p) (hc : Cells K H0 p c) : Go K p c H0 n (upd H l o) := by
  obtain ⟨i, j, e, r⟩ := id g.pen
  exact ⟨g.but.own hl, ⟨i, j, (upd_ne (Ne.symm hp)).trans e, r⟩, hc.but (g.but.own hl)⟩
theorem Go.same (g : Go K p c H0 n H) (h : Same H H1) : Go K p c H0 n H1 := by
  obtain ⟨i, j, e, r⟩ := id g.pen
  exact ⟨g.but.trans (But.of_same h), ⟨i, j, h _ _ e, r⟩, g.cel.but (But.of_same h)⟩
end

/-! ### numbers -/
theorem fmod_lt {a b : Int} (h : 0 < b) : Int.fmod a b < b := Int.fmod_lt_of_pos a h
theorem fmod_ge {a b : Int} (h : 0 < b) : 0 ≤ Int.fmod a b := Int.fmod_nonneg_of_pos a h
theorem fdiv_ge {a b : Int} (h : 0 ≤ a) (h2 : 0 ≤ b) : 0 ≤ Int.fdiv a b := Int.fdiv_nonneg h h2

theorem atI_fmod {α : Type} {xs : List α} {i : Int} (h : 0 < xs.length) : ∃ v, v ∈ xs ∧ atI xs (Int.fmod i xs.length) = some v := by
  have h0 : (0 : Int) < xs.length := by omega
  have g := fmod_ge (a := i) h0
  have l := fmod_lt (a := i) h0
  obtain ⟨j, e⟩ := Int.eq_ofNat_of_zero_le g
  rw [e] at l ⊢
  have hj : j < xs.length := by omega
  exact ⟨xs[j], List.getElem_mem hj, atI_nat (List.getElem?_eq_getElem hj)⟩
theorem atI_lt {α : Type} {xs : List α} {i : Int} (h0 : 0 ≤ i) (h : i < xs.length) : ∃ v, v ∈ xs ∧ atI xs i = some v := by
  obtain ⟨j, rfl⟩ := Int.eq_ofNat_of_zero_le h0
  have hj : j < xs.length := by omega
  exact ⟨xs[j], List.getElem_mem hj, atI_nat (List.getElem?_eq_getElem hj)⟩

/-! ### data whose repr is short -/
structure RepOk (d : PyData) (k n : Nat) : Prop where
  sh : d.showable = true
  nd : d.hasDict = false
  dp : d.depth ≤ k
  lv : d.leavesShort 400 = true
  cl : d.canLay0 = true
  bk : d.bulk ≤ n
theorem RepOk.mono {d : PyData} {k n k' n' : Nat} (h : RepOk d k n) (hk : k ≤ k') (hn : n ≤ n') : RepOk d k' n' := ⟨h.sh, h.nd, Nat.le_trans h.dp hk, h.lv, h.cl, Nat.le_trans h.bk hn⟩
theorem RepOk.fits {d : PyData} {k n : Nat} (h : RepOk d k n) (hn : n ≤ 40000) : d.shown.length ≤ sizeLine := by
  have e := PyData.shown_le_bulk 400 (by decide) d h.lv
  have b := h.bk
  have : (400 + 2) * d.bulk ≤ 402 * 40000 := Nat.mul_le_mul (by decide) (by omega)
  rw [sizeLine_eq]
  omega
theorem RepOk.none : RepOk .none 0 0 := ⟨rfl, rfl, Nat.le_refl _, by decide +kernel, rfl, Nat.le_refl _⟩
theorem RepOk.bool (b : Bool) : RepOk (.bool b) 0 0 := ⟨rfl, rfl, Nat.le_refl _, by cases b <;> decide +kernel, rfl, Nat.le_refl _⟩
theorem log2_small {i : Int} (h : i.natAbs < 2 ^ 398) : i.natAbs.log2 < 398 := by
  by_cases z : i.natAbs = 0
  · rw [z]
    decide
  · exact (Nat.log2_lt z).mpr h
theorem RepOk.int {i : Int} (h : i.natAbs < 2 ^ 398) : RepOk (.int i) 0 0 := by
  have l := log2_small h
  refine ⟨?_, rfl, Nat.le_refl _, ?_, rfl, Nat.le_refl _⟩
  · simp only [PyData.showable, decide_eq_true_eq]
    omega
  · have e := int_text_length_le (a := i) (k := 398) (by decide) l
    have e2 : (Str.ofString (toString i)).length = (toString i).length := PySem.ofString_length _
    have e3 : (PyData.int i).shown.length ≤ 400 := by
      show (Str.ofString (toString i)).length ≤ 400
      rw [e2]
      exact Nat.le_trans e (by decide)
    unfold PyData.leavesShort
    exact decide_eq_true e3
theorem RepOk.str {x : Str} {n : Nat} (h : x.length ≤ n) (hc : ∀ c ∈ x.cps.toList, c < 16 ^ 8) (ho : (PyData.str x).canLay0 = true) : RepOk (.str x) 0 n := by
  refine ⟨rfl, rfl, Nat.le_refl _, ?_, ho, h⟩
  simp only [PyData.leavesShort, List.all_eq_true, decide_eq_true_eq]
  exact hc
theorem rep_all {ds : List PyData} {k n : Nat} : (∀ d ∈ ds, RepOk d k n) → PyData.showableAll ds = true ∧ PyData.hasDictAll ds = false ∧ PyData.depthAll ds ≤ k ∧ PyData.leavesShortAll 400 ds = true ∧ PyData.canLayAll0 ds = true ∧ PyData.bulkAll ds ≤ ds.length * (n + 1) := by
  induction ds with
  | nil => intro _; exact ⟨rfl, rfl, Nat.zero_le _, rfl, rfl, Nat.zero_le _⟩
  | cons d r ih =>
    intro h
    obtain ⟨h1, h2, h3, h4, h6, h5⟩ := ih fun x hx => h x (List.mem_cons_of_mem _ hx)
    have q := h d (List.mem_cons_self ..)
    refine ⟨?_, ?_, ?_, ?_, ?_, ?_⟩
    · simp only [PyData.showableAll, q.sh, h1, Bool.and_self]
    · simp only [PyData.hasDictAll, q.nd, h2, Bool.or_self]
    · simp only [PyData.depthAll]
      exact Nat.max_le.mpr ⟨q.dp, h3⟩
    · simp only [PyData.leavesShortAll, q.lv, h4, Bool.and_self]
    · simp only [PyData.canLayAll0, q.cl, h6, Bool.and_self]
    · simp only [PyData.bulkAll, List.length_cons]
      have b := q.bk
      have e : (r.length + 1) * (n + 1) = r.length * (n + 1) + (n + 1) := Nat.succ_mul _ _
      omega
theorem RepOk.list {ds : List PyData} {k n : Nat} (h : ∀ d ∈ ds, RepOk d k n) : RepOk (.list ds) (k + 1) (ds.length * (n + 1)) := by
  obtain ⟨h1, h2, h3, h4, h6, h5⟩ := rep_all h
  exact ⟨by simpa only [PyData.showable] using h1, by simpa only [PyData.hasDict] using h2, by simp only [PyData.depth]; omega, by simpa only [PyData.leavesShort] using h4, by simpa only [PyData.canLay0] using h6, by simpa only [PyData.bulk] using h5⟩
theorem RepOk.tuple {ds : List PyData} {k n : Nat} (h : ∀ d ∈ ds, RepOk d k n) : RepOk (.tuple ds) (k + 1) (ds.length * (n + 1)) := by
  obtain ⟨h1, h2, h3, h4, h6, h5⟩ := rep_all h
  exact ⟨by simpa only [PyData.showable] using h1, by simpa only [PyData.hasDict] using h2, by simp only [PyData.depth]; omega, by simpa only [PyData.leavesShort] using h4, by simpa only [PyData.canLay0] using h6, by simpa only [PyData.bulk] using h5⟩

theorem RepOk.shaped {d : PyData} {k n : Nat} (h : RepOk d k n) (hk : k ≤ 64) : SeqAt.shaped d = true := by
  unfold SeqAt.shaped
  rw [h.cl, Bool.true_and]
  exact decide_eq_true (Nat.le_trans h.dp hk)
/-- repr(x): its text, by the data alone -/
def rRepr2 (K : PySem.W.Frag) : List V → Hp → VK → Prop := fun xs H Q => ∃ v d k n, xs = [v] ∧ Dp K H v d ∧ RepOk d k n ∧ k ≤ 40 ∧ n ≤ 40000 ∧ Q (.str d.shown) H
theorem call_reprD {X : Cx} (hG : X.A.guards = some []) (hu : X.A.units + 64 < cLine) : CallR X (.builtin "repr") (rRepr2 X.K) := by
  intro pins s σ H xs us Q I r h
  obtain ⟨v, d, k, n, e, hd, ok, hk, hn, q⟩ := h
  exact call_repr hG hu pins s σ H xs us Q I r ⟨v, d, e, hd, ok.sh, ok.nd, Nat.le_trans ok.dp hk, ok.fits hn, q⟩

/-! data that is read at one heap is read at each that keeps what is tracked -/
section
variable {K : PySem.W.Frag} {H H1 : Hp}
mutual
theorem dp_same (h : Same H H1) : ∀ (d : PyData) (v : V), Dp K H v d → Dp K H1 v d
  | .none, _, q => by
    cases q
    exact .non
  | .bool b, _, q => by
    cases q
    exact .bl b
  | .int i, _, q => by
    cases q
    exact .int i
  | .str x, _, q => by
    cases q
    exact .str x
  | .list ds, _, q => by
    cases q with
    | lst h1 h2 => exact .lst (same_seqL h h1) (dpAll_same h ds _ h2)
  | .tuple ds, _, q => by
    cases q with
    | tup h1 h2 => exact .tup (same_seqT h h1) (dpAll_same h ds _ h2)
  | .dict _, _, q => nomatch q
theorem dpAll_same (h : Same H H1) : ∀ (ds : List PyData) (vs : List V), DpAll K H vs ds → DpAll K H1 vs ds
  | [], _, q => by
    cases q
    exact .nil
  | d :: ds, _, q => by
    cases q with
    | cons h1 h2 => exact .cons (dp_same h d _ h1) (dpAll_same h ds _ h2)
end
/-- flat things as data -/
theorem dpAll_ints : ∀ ns : List Int, DpAll K H (ns.map V.int) (ns.map PyData.int)
  | [] => .nil
  | n :: r => .cons (.int n) (dpAll_ints r)
theorem dpAll_strs : ∀ ns : List Str, DpAll K H (ns.map V.str) (ns.map PyData.str)
  | [] => .nil
  | n :: r => .cons (.str n) (dpAll_strs r)
theorem DpAll.map {α : Type} {f : α → V} {g : α → PyData} : ∀ {l : List α}, (∀ x ∈ l, Dp K H (f x) (g x)) → DpAll K H (l.map f) (l.map g)
  | [], _ => .nil
  | x :: r, h => .cons (h x (List.mem_cons_self ..)) (DpAll.map fun y hy => h y (List.mem_cons_of_mem _ hy))
end
end RO

namespace RO
open PySem PySem.Spec PyProof.Rows L2

/-! ### short texts -/
def TOk (k : Nat) (t : Str) : Prop := t.length ≤ k ∧ ∀ c ∈ t.cps.toList, c < 128
theorem TOk.mono {k j : Nat} {t : Str} (h : TOk k t) (l : k ≤ j) : TOk j t := ⟨Nat.le_trans h.1 l, h.2⟩
theorem str_len (t : Str) : t.length = t.cps.toList.length := by
  show t.cps.size = _
  simp
theorem cut_ok {k : Nat} {t : Str} (h : TOk k t) (lo hi : Option Int) : TOk k (cutS t lo hi) := by
  refine ⟨?_, fun c hc => ?_⟩
  · have e := str_len (cutS t lo hi)
    have e2 := str_len t
    have l := h.1
    rw [e]
    unfold cutS
    simp only [List.length_take, List.length_drop]
    omega
  · unfold cutS at hc
    simp only at hc
    exact h.2 c (List.mem_of_mem_drop (List.mem_of_mem_take hc))
theorem codes_app (a b : Str) : (a ++ b).cps.toList = a.cps.toList ++ b.cps.toList := by
  show (a.cps ++ b.cps).toList = _
  simp
theorem codes_join0 : ∀ l : List Str, (Str.join (Str.ofString "") l).cps.toList = l.flatMap (·.cps.toList)
  | [] => rfl
  | [x] => by
    show x.cps.toList = _
    simp
  | x :: y :: r => by
    show (x ++ Str.ofString "" ++ Str.join (Str.ofString "") (y :: r)).cps.toList = _
    rw [codes_app, codes_app, codes_join0 (y :: r)]
    have : (Str.ofString "").cps.toList = [] := by decide +kernel
    rw [this, List.append_nil]
    simp only [List.flatMap_cons]
/-- signs put together -/
theorem join_ok {l : List Str} (h : ∀ x ∈ l, TOk 1 x) : TOk l.length (Str.join (Str.ofString "") l) := by
  refine ⟨?_, fun c hc => ?_⟩
  · rw [str_len, codes_join0]
    induction l with
    | nil => exact Nat.le_refl _
    | cons x r ih =>
      have a := (h x (List.mem_cons_self ..)).1
      rw [str_len] at a
      have b := ih fun y hy => h y (List.mem_cons_of_mem _ hy)
      rw [List.flatMap_cons, List.length_append, List.length_cons]
      omega
  · rw [codes_join0] at hc
    obtain ⟨x, hx, hc⟩ := List.mem_flatMap.mp hc
    exact (h x hx).2 c hc
theorem RepOk.tok {k : Nat} {t : Str} (h : TOk k t) : RepOk (.str t) 0 k := by
  refine RepOk.str h.1 (fun c hc => Nat.lt_of_lt_of_le (h.2 c hc) (by decide)) ?_
  simp only [PyData.canLay0, PyData.strOk, ← Array.all_toList, List.all_eq_true, decide_eq_true_eq]
  exact fun c hc => Nat.lt_of_lt_of_le (h.2 c hc) (by decide)

/-! ### rows -/
/-- what a row bears -/
inductive What where
  | order (i : Int)
  | name (t : Str)
  deriving DecidableEq
def What.v : What → V
  | .order i => .int i
  | .name t => .str t
def What.d : What → PyData
  | .order i => .int i
  | .name t => .str t
theorem What.v_inj {a b : What} (h : a.v = b.v) : a = b := by
  cases a <;> cases b <;> simp_all [What.v]
theorem What.dp {K : PySem.W.Frag} {H : Hp} (x : What) : Dp K H x.v x.d := by
  cases x with
  | order i => exact .int i
  | name t => exact .str t
theorem What.rep {x : What} (h : (∃ i : Int, x = .order i ∧ -4 ≤ i ∧ i ≤ 4) ∨ ∃ t, x = .name t ∧ TOk 8 t) : RepOk x.d 0 8 := by
  rcases h with ⟨i, rfl, h1, h2⟩ | ⟨t, rfl, h⟩
  · exact (RepOk.int (by omega)).mono (Nat.le_refl _) (by omega)
  · exact RepOk.tok h
theorem scal_what (x y : What) : scal x.v y.v = true := by cases x <;> cases y <;> rfl
theorem What.flat (x : What) : flatV x.v = true := by cases x <;> rfl
structure Row where
  m : Int
  l : Str
  w : What
def lines6 : List Str := ["port", "star", "down", "aport", "astar", "up"]
def tubes : List Str := ["down", "up"]
/-- a row as DOC asks -/
structure Row.Ok (r : Row) : Prop where
  m0 : 0 ≤ r.m
  m1 : r.m ≤ 99999
  ln : r.l ∈ lines6
  wh : (r.l ∈ tubes ∧ ∃ t, r.w = .name t ∧ TOk 8 t) ∨ (r.l ∉ tubes ∧ ∃ i, r.w = .order i ∧ -4 ≤ i ∧ i ≤ 4)
theorem lines6_ok : ∀ l ∈ lines6, TOk 8 l := by
  intro l h
  have h2 : l = "port" ∨ l = "star" ∨ l = "down" ∨ l = "aport" ∨ l = "astar" ∨ l = "up" := by simpa [lines6] using h
  rcases h2 with rfl | rfl | rfl | rfl | rfl | rfl <;> exact ⟨by decide +kernel, by decide +kernel⟩
def Row.d (r : Row) : PyData := .tuple [.int r.m, .str r.l, r.w.d]
theorem Row.Ok.rep {r : Row} (h : r.Ok) : RepOk r.d 1 27 := by
  refine (RepOk.tuple (k := 0) (n := 8) fun d hd => ?_).mono (Nat.le_refl _) (by show 3 * 9 ≤ 27; omega)
  have z : d = .int r.m ∨ d = .str r.l ∨ d = r.w.d := by simpa using hd
  rcases z with rfl | rfl | rfl
  · exact (RepOk.int (by have := h.m0; have := h.m1; omega)).mono (Nat.le_refl _) (by omega)
  · exact RepOk.tok (lines6_ok _ h.ln)
  · refine What.rep ?_
    rcases h.wh with ⟨_, t, e, q⟩ | ⟨_, i, e, q1, q2⟩
    · exact .inr ⟨t, e, q⟩
    · exact .inl ⟨i, e, q1, q2⟩

/-- the row r stands at a -/
def RowAt (K : PySem.W.Frag) (H : Hp) (a : Addr) (r : Row) : Prop := SqT K H a [.int r.m, .str r.l, r.w.v]
/-- rows at places -/
inductive RowsAt (K : PySem.W.Frag) (H : Hp) : List Addr → List Row → Prop
  | nil : RowsAt K H [] []
  | cons {a : Addr} {r : Row} {as : List Addr} {rs : List Row} : RowAt K H a r → RowsAt K H as rs → RowsAt K H (a :: as) (r :: rs)
/-- the log rs stands at t -/
def LogAt (K : PySem.W.Frag) (H : Hp) (t : Addr) (rs : List Row) : Prop := ∃ as : List Addr, SqT K H t (as.map V.ref) ∧ RowsAt K H as rs
section
variable {K : PySem.W.Frag} {H H1 : Hp} {t a : Addr} {as : List Addr} {rs : List Row} {r : Row}
theorem RowsAt.length (h : RowsAt K H as rs) : as.length = rs.length := by
  induction h with
  | nil => rfl
  | cons _ _ ih => exact congrArg (· + 1) ih
theorem RowsAt.get (h : RowsAt K H as rs) : ∀ {i : Nat} {r : Row}, rs[i]? = some r → ∃ a, as[i]? = some a ∧ RowAt K H a r := by
  induction h with
  | nil => intro i r e; simp at e
  | cons h1 _ ih =>
    intro i r e
    cases i with
    | zero =>
      simp at e
      subst e
      exact ⟨_, rfl, h1⟩
    | succ i => exact ih (by simpa using e)
theorem RowsAt.get' (h : RowsAt K H as rs) : ∀ {i : Nat} {a : Addr}, as[i]? = some a → ∃ r, rs[i]? = some r ∧ RowAt K H a r := by
  induction h with
  | nil => intro i r e; simp at e
  | cons h1 _ ih =>
    intro i r e
    cases i with
    | zero =>
      simp at e
      subst e
      exact ⟨_, rfl, h1⟩
    | succ i => exact ih (by simpa using e)
theorem RowsAt.snoc (h : RowsAt K H as rs) (h1 : RowAt K H a r) : RowsAt K H (as ++ [a]) (rs ++ [r]) := by
  induction h with
  | nil => exact .cons h1 .nil
  | cons h2 _ ih => exact .cons h2 ih
theorem RowsAt.imp (h : RowsAt K H as rs) (f : ∀ a r, RowAt K H a r → RowAt K H1 a r) : RowsAt K H1 as rs := by
  induction h with
  | nil => exact .nil
  | cons h2 _ ih => exact .cons (f _ _ h2) ih
theorem RowsAt.same (h : RowsAt K H as rs) (s : Same H H1) : RowsAt K H1 as rs := h.imp fun _ _ q => same_seqT s q
theorem seqT_lst {p : Addr} {xs ys : List V} (h : SqT K H a xs) (hp : H p = some (.lst ys)) (b : But p H H1) : SqT K H1 a xs := by
  rcases h with h | h
  · have n : a ≠ p := by
      rcases h with h | ⟨o, h⟩
      · exact ne_of h hp (by intro z; cases z)
      · exact ne_of h hp (by intro z; cases z)
    exact .inl (b.rd n h)
  · exact .inr h
theorem seqT_go {p c : Addr} {n : Nat} {xs : List V} (h : SqT K H a xs) (hp : PenAt H p c n) (b : But p H H1) : SqT K H1 a xs := by
  obtain ⟨_, _, e, _⟩ := hp
  exact seqT_lst h e b
theorem RowsAt.lst {p : Addr} {ys : List V} (h : RowsAt K H as rs) (hp : H p = some (.lst ys)) (b : But p H H1) : RowsAt K H1 as rs := h.imp fun _ _ q => seqT_lst q hp b
theorem RowsAt.go {p c : Addr} {n : Nat} (h : RowsAt K H as rs) (hp : PenAt H p c n) (b : But p H H1) : RowsAt K H1 as rs := by
  obtain ⟨_, _, e, _⟩ := hp
  exact h.lst e b
theorem LogAt.go {p c : Addr} {n : Nat} (h : LogAt K H t rs) (hp : PenAt H p c n) (b : But p H H1) : LogAt K H1 t rs := by
  obtain ⟨as, h1, h2⟩ := h
  obtain ⟨_, _, e, _⟩ := id hp
  exact ⟨as, seqT_lst h1 e b, h2.go hp b⟩
theorem RowsAt.take (h : RowsAt K H as rs) (n : Nat) : RowsAt K H (as.take n) (rs.take n) := by
  induction h generalizing n with
  | nil => simp; exact .nil
  | cons h2 _ ih =>
    cases n with
    | zero => exact .nil
    | succ n => exact .cons h2 (ih n)
theorem RowsAt.drop (h : RowsAt K H as rs) (n : Nat) : RowsAt K H (as.drop n) (rs.drop n) := by
  induction h generalizing n with
  | nil => simp; exact .nil
  | cons h2 h3 ih =>
    cases n with
    | zero => exact .cons h2 h3
    | succ n => exact ih n
theorem LogAt.same (h : LogAt K H t rs) (s : Same H H1) : LogAt K H1 t rs := by
  obtain ⟨as, h1, h2⟩ := h
  exact ⟨as, same_seqT s h1, h2.same s⟩
theorem RowAt.dp (h : RowAt K H a r) : Dp K H (.ref a) r.d := .tup h (.cons (.int _) (.cons (.str _) (.cons r.w.dp .nil)))
theorem RowsAt.dp (h : RowsAt K H as rs) : DpAll K H (as.map V.ref) (rs.map Row.d) := by
  induction h with
  | nil => exact .nil
  | cons h2 _ ih => exact .cons h2.dp ih
theorem LogAt.dp (h : LogAt K H t rs) : Dp K H (.ref t) (.tuple (rs.map Row.d)) := by
  obtain ⟨as, h1, h2⟩ := h
  exact .tup h1 h2.dp
theorem log_rep (h : ∀ r ∈ rs, r.Ok) (l : rs.length ≤ 41) : RepOk (.tuple (rs.map Row.d)) 2 1148 := by
  refine (RepOk.tuple (k := 1) (n := 27) fun d hd => ?_).mono (Nat.le_refl _) ?_
  · obtain ⟨r, hr, rfl⟩ := List.mem_map.mp hd
    exact (h r hr).rep
  · rw [List.length_map]
    omega
end
theorem ints_rep {ns : List Int} {k : Nat} (h : ∀ n ∈ ns, n.natAbs < 2 ^ 398) (l : ns.length ≤ k) : RepOk (.list (ns.map PyData.int)) 1 k := by
  refine (RepOk.list (k := 0) (n := 0) fun d hd => ?_).mono (Nat.le_refl _) ?_
  · obtain ⟨r, hr, rfl⟩ := List.mem_map.mp hd
    exact RepOk.int (h r hr)
  · rw [List.length_map]
    omega
theorem cut_take (xs : List V) (i : Nat) (h : i ≤ xs.length) : cutV xs none (some (i : Int)) = xs.take i := by
  unfold cutV
  rw [HT.sIx_none, HT.sIx_nat, List.drop_zero, Nat.min_eq_left h, Nat.sub_zero]
theorem cut_drop (xs : List V) (i : Nat) : cutV xs (some (i : Int)) none = xs.drop i := by
  unfold cutV
  rw [HT.sIx_none, HT.sIx_nat]
  by_cases h : i ≤ xs.length
  · rw [Nat.min_eq_left h, List.take_of_length_le (by rw [List.length_drop]; exact Nat.le_refl _)]
  · rw [Nat.min_eq_right (by omega), List.drop_length, List.drop_eq_nil_of_le (by omega)]
    simp
theorem cut_not (xs : List V) (i : Nat) (h : i < xs.length) : ¬(HT.sIx xs.length 0 none = 0 ∧ HT.sIx xs.length xs.length (some (i : Int)) = xs.length) := fun z => by
  rw [HT.sIx_nat] at z
  omega
/-! ### the rules that name the written part, with it said: they stand within comprehensions, too -/
section
variable (K : PySem.W.Frag) {X : Cx}
theorem kx_seq (h : X.K = K := by rfl) : IxR X (rIx K) := by
  subst h
  exact ix_seq
theorem kx_list (h : X.K = K := by rfl) : IxR X (rIxL K) := by
  subst h
  exact ix_list
theorem kx_tup (h : X.K = K := by rfl) : IxR X (rIxT K) := by
  subst h
  exact ix_tup
theorem k_slL (h : X.K = K := by rfl) : SlR X (rSlL K) := by
  subst h
  exact sl_list
theorem k_slT (h : X.K = K := by rfl) : SlR X (rSlT K) := by
  subst h
  exact sl_tup
theorem k_slA (h : X.K = K := by rfl) : SlR X (rSlA K) := by
  subst h
  exact sl_tupA
theorem k_in (h : X.K = K := by rfl) : OpR X (compareOp .In) (rIn K false) := by
  subst h
  exact op_in_seq
theorem k_notin (h : X.K = K := by rfl) : OpR X (compareOp .NotIn) (rIn K true) := by
  subst h
  exact op_notIn_seq
def rLen (K : PySem.W.Frag) : List V → Hp → VK → Prop := fun xs H Q => ∃ p ys, xs = [.ref p] ∧ (SqL K H p ys ∨ SqT K H p ys) ∧ Q (.int ys.length) H
theorem k_len (h : X.K = K := by rfl) : CallR X (.builtin "len") (rLen K) := by
  subst h
  exact call_len_seq
theorem k_isi (h : X.K = K := by rfl) : CallR X (.builtin "isinstance") (rIsi K) := by
  subst h
  exact call_isi
theorem k_eqD (hu : X.A.units + 64 < cLine) (h : X.K = K := by rfl) : OpR X (compareOp .Eq) (rEqD K) := by
  subst h
  exact op_eqD hu
theorem k_neD (hu : X.A.units + 64 < cLine) (h : X.K = K := by rfl) : OpR X (compareOp .NotEq) (rNeD K) := by
  subst h
  exact op_neD hu
theorem k_repr (hG : X.A.guards = some []) (hu : X.A.units + 64 < cLine) (h : X.K = K := by rfl) : CallR X (.builtin "repr") (rRepr2 K) := by
  subst h
  exact call_reprD hG hu
def rTupOf (K : PySem.W.Frag) : List V → Hp → VK → Prop := fun xs H Q => ∃ p ys, xs = [.ref p] ∧ ((SqL K H p ys ∧ ∀ l, H l = none → Q (.ref l) (upd H l (.tup ys))) ∨ (SqT K H p ys ∧ Q (.ref p) H))
theorem k_tupOf (h : X.K = K := by rfl) : CallR X (.type "tuple") (rTupOf K) := by
  subst h
  exact call_tuple_of
def rListOf (K : PySem.W.Frag) : List V → Hp → VK → Prop := fun xs H Q => ∃ p ys, xs = [.ref p] ∧ (SqL K H p ys ∨ SqT K H p ys) ∧ ∀ l, H l = none → Q (.ref l) (upd H l (.lst ys))
theorem k_listOf (h : X.K = K := by rfl) : CallR X (.type "list") (rListOf K) := by
  subst h
  exact call_list_of
theorem k_isiT (h : X.K = K := by rfl) : CallR X (.builtin "isinstance") (rIsiT K) := by
  subst h
  exact call_isiT
theorem k_all (hc : X.calm = true) (h : X.K = K := by rfl) : CallR X (.builtin "all") (rAll K) := by
  subst h
  exact cr_all hc
theorem k_any (hc : X.calm = true) (h : X.K = K := by rfl) : CallR X (.builtin "any") (rAny K) := by
  subst h
  exact cr_any hc
theorem k_sorted (h : X.K = K := by rfl) : CallR X (.builtin "sorted") (rSortedI K) := by
  subst h
  exact cr_sortedI
theorem k_catT (h : X.K = K := by rfl) : OpR X (binaryOp .Add) (rCatT K) := by
  subst h
  exact op_catT
theorem k_pgT {es : List Expr} {k : Nat} {t : TGs} {n : Nat} {pos : Pos} (hc : X.calm = true) (h : PGs X es t) (hn : (assignEach es X.env).length = n := by rfl) (hs : (assignEach es X.env).findIdx? (fun p => p.1) = none := by rfl) (hK : X.K = K := by rfl) : PG X (.Tuple es k pos) (gTup K n t) := by
  subst hK
  exact pg_tup hc h hn hs
theorem k_piL {tg l : Expr} {tl : TE} (hl : PE X l tl) (h : X.K = K := by rfl) : PI X tg l (iList K tl) := by
  subst h
  exact pi_list hl
theorem k_piT {tg l : Expr} {tl : TE} (hl : PE X l tl) (h : X.K = K := by rfl) : PI X tg l (iTup K tl) := by
  subst h
  exact pi_tup hl
end
/-! ### lists and tuples alike -/
/-- a list or a tuple is read -/
def SqE (K : PySem.W.Frag) (H : Hp) (a : Addr) (xs : List V) : Prop := SqL K H a xs ∨ SqT K H a xs
def gEither (K : PySem.W.Frag) (n : Nat) (t : TGs) : TG := fun v σ H Q => ∃ a xs, v = .ref a ∧ SqE K H a xs ∧ xs.length = n ∧ t xs σ H Q
/-- x[i], x a list or a tuple -/
def rIxE (K : PySem.W.Frag) : R2 := fun x y H Q => ∃ p xs i v, x = .ref p ∧ y = .int i ∧ SqE K H p xs ∧ atI xs i = some v ∧ Q v H
theorem kx_E (K : PySem.W.Frag) {X : Cx} (hK : X.K = K := by rfl) : IxR X (rIxE K) := by
  subst hK
  rintro value slice pins s σ H x y v u Q I rx ry ⟨p, xs, i, z, e1, e2, hq | hq, e3, q⟩ hs
  · exact ix_list value slice pins s σ H x y v u Q I rx ry ⟨p, xs, i, z, e1, e2, hq, e3, q⟩ hs
  · exact ix_tup value slice pins s σ H x y v u Q I rx ry ⟨p, xs, i, z, e1, e2, hq, e3, q⟩ hs
/-- for x in v, v a name of a list or of a tuple -/
def iEither (K : PySem.W.Frag) (i : Nat) : TI := fun σ H R => ∃ a, σ[i]? = some (some (V.ref a)) ∧ (((∃ xs, SqL K H a xs) ∧ R (Itl K a) H) ∨ ((∃ xs, SqT K H a xs) ∧ R (Itt K a) H))
theorem k_piV (K : PySem.W.Frag) {X : Cx} {tg l : Expr} {i : Nat} (hl : PE X l (tVar i)) (hK : X.K = K := by rfl) : PI X tg l (iEither K i) := by
  subst hK
  constructor
  rintro pins s σ H R I ⟨a, e, ⟨hq, q⟩ | ⟨hq, q⟩⟩
  · exact (pi_list hl).run pins s σ H R I ⟨_, e, a, rfl, hq, q⟩
  · exact (pi_tup hl).run pins s σ H R I ⟨_, e, a, rfl, hq, q⟩
section
variable {X : Cx} {K : PySem.W.Frag} {H H1 : Hp} {a p : Addr} {xs : List V}
theorem SqE.same (h : SqE K H a xs) (s : Same H H1) : SqE K H1 a xs := h.imp (same_seqL s) (same_seqT s)
theorem k_pgE (K : PySem.W.Frag) {es : List Expr} {k : Nat} {t : TGs} {n : Nat} {pos : Pos} (hc : X.calm = true) (h : PGs X es t) (hn : (assignEach es X.env).length = n := by rfl) (hs : (assignEach es X.env).findIdx? (fun p => p.1) = none := by rfl)
    (hK : X.K = K := by rfl) : PG X (.Tuple es k pos) (gEither K n t) := by
  subst hK
  constructor
  rintro pins s σ H v u Q I r ⟨a, xs, e1, hq | hq, hl, hw⟩
  · exact (pg_unl hc h hn hs).run pins s σ H v u Q I r ⟨a, xs, e1, hq, hl, hw⟩
  · exact (pg_tup hc h hn hs).run pins s σ H v u Q I r ⟨a, xs, e1, hq, hl, hw⟩
theorem seqT_ty (h : SqT K H a xs) : TyX K H (.ref a) (.type "tuple") := by
  rcases h with (h | ⟨o, h⟩) | ⟨o, its, n, e, c, _⟩
  · exact .base (.tup h)
  · exact .fTuple h
  · exact .kTuple e c
theorem seqL_ty (h : SqL K H a xs) : TyX K H (.ref a) (.type "list") := by
  rcases h with (h | ⟨o, h⟩) | ⟨o, its, n, e, c, _⟩
  · exact .base (.lst h)
  · exact .base (.frz h)
  · exact .kList e c
end
/-! ### defs with defaults -/
section
variable {P : Program} {w : World} {K : PySem.W.Frag} {mg : Str → Option Value} {base : Heap} {x qual : Str} {params : Arguments} {body : List Stmt} {scope : Scope} {dvs : List V} {f : Addr} {fd : FuncData} {ps : List Str}
theorem FunD_okN {N : List Str} {k : Nat} {sp : Sp} (F : FunD K x qual params body scope dvs [] f fd) (S : FnScope N ps scope) (len : ∀ vs H Q E, sp vs H Q E → vs.length = ps.length)
    (hb : ∀ (cdv : Value) (A : Around) (outer : List Env) (s : Shared) (H : Hp) (vs : List V) (Q : VK) (E : XK), Room k (A.deeper (envOfC qual scope s.heap.objs.size f cdv)) → sp vs H Q E →
      ∃ t, PSs (cxOf CX0 P w K mg base N qual scope f cdv A outer s H E).nox body t ∧ t { nx := fun _ H' => Q .non H', rt := Q } (start N vs) H) : FnOk P w K mg base CX0 (k + 1) f fd ps sp :=
  F.ok S len fun cdv A outer s H vs Q E hr h => by
    obtain ⟨t, h1, h2⟩ := hb cdv A outer s H vs Q E hr h
    exact ⟨t, h1.nox, h2⟩
theorem FunD_mk {oc : Value} {od an : Option Addr} {T : Addr} {kV doc pm cdv ct : Value} {osl : Array (Option Value)} {tc : Value} {td : Option Addr} {its : Array Value} {n : Nat} {tsl : Array (Option Value)}
    (l : K.lookup f = some ⟨oc, od, .func (PySem.W.fnOf x qual params body scope (.ref T) kV doc pm an cdv ct), osl⟩) (c : PySem.W.codeIn K cdv qual = true) (k : PySem.W.keepIn K (.ref f) = true)
    (lt : K.lookup T = some ⟨tc, td, .seq its n, tsl⟩) (v : Vals dvs its.toList) (hd : dvs ≠ []) : FunD K x qual params body scope dvs [] f (PySem.W.fnOf x qual params body scope (.ref T) kV doc pm an cdv ct) :=
  ⟨⟨oc, od, _, kV, doc, pm, an, cdv, ct, osl, rfl, l, c, .inr ⟨hd, T, _, its.toList, n, rfl, lt, by simp, v⟩, .inl rfl⟩, k⟩
/-- keywords, the defaults filling up what lacks -/
theorem FunD_kb (F : FunD K x qual params body scope dvs [] f fd) (hd : dvs ≠ []) (ks : List Str) (g : List Value → List Value → List Value → List Value) (gV : List V → List V → List V → List V)
    (rel : ∀ {vs ds zs : List V} {us its ws : List Value}, Vals vs us → Vals ds its → Vals zs ws → Vals (gV vs ds zs) (g us its ws))
    (h : ∀ (T : Addr) (kV doc pm : Value) (an : Option Addr) (cdv ct : Value) (us its ws : List Value), its.length = dvs.length → (g us its ws).length = ps.length →
      ∃ k, bindArgs (PySem.W.fnOf x qual params body scope (.ref T) kV doc pm an cdv ct) ⟨us, ks.zip ws⟩ = seqItems? (.ref T) >>= k ∧ k (some its.toArray) = pure (ps.zip (g us its ws))) :
    ∃ its : List Value, KBinds K fd ps ks (fun us ws => g us its ws) (fun vs zs => gV vs dvs zs) := by
  obtain ⟨oc, od, dV, kV, doc, pm, an, cdv, ct, osl, e, lk, hcd, hD, _⟩ := F.ex
  subst e
  rcases hD with ⟨e, _⟩ | ⟨_, T, o, its, m, rfl, lT, oT, rT⟩
  · exact absurd e hd
  · refine ⟨its, fun s us ws X hl => ?_, fun r1 r2 => rel r1 rT r2⟩
    obtain ⟨k, e1, e2⟩ := h T kV doc pm an cdv ct us its ws rT.length.symm hl
    refine BindsTo.of_looks fun M => ?_
    rw [e1]
    exact looks_items X lT oT (.of_pure e2)
end
end RO

namespace RO
open PySem PySem.Spec PyProof.Rows L2
def top (i : Nat) : Stmt := PySem.Challenge.pw_ringorders_k06_rows_on_lines.main.body.getD i (.Pass ⟨0, 0, 0, 0⟩)
abbrev s_is_whole : Stmt := top 9
theorem sc_is_whole : FnScope ["thing"] ["thing"] (defScope s_is_whole) := ⟨rfl, rfl, rfl, by decide +kernel, rfl, by decide +kernel, by decide +kernel⟩
abbrev s_is_minute : Stmt := top 10
theorem sc_is_minute : FnScope ["thing"] ["thing"] (defScope s_is_minute) := ⟨rfl, rfl, rfl, by decide +kernel, rfl, by decide +kernel, by decide +kernel⟩
abbrev s_is_order : Stmt := top 11
theorem sc_is_order : FnScope ["thing"] ["thing"] (defScope s_is_order) := ⟨rfl, rfl, rfl, by decide +kernel, rfl, by decide +kernel, by decide +kernel⟩
abbrev s_is_name : Stmt := top 12
theorem sc_is_name : FnScope ["thing", "sign"] ["thing"] (defScope s_is_name) := ⟨rfl, rfl, rfl, by decide +kernel, rfl, by decide +kernel, by decide +kernel⟩
abbrev s_is_row : Stmt := top 17
theorem sc_is_row : FnScope ["thing"] ["thing"] (defScope s_is_row) := ⟨rfl, rfl, rfl, by decide +kernel, rfl, by decide +kernel, by decide +kernel⟩
abbrev s_makes_row : Stmt := top 18
theorem sc_makes_row : FnScope ["thing", "minute", "line", "what", "borne"] ["thing"] (defScope s_makes_row) := ⟨rfl, rfl, rfl, by decide +kernel, rfl, by decide +kernel, by decide +kernel⟩
abbrev s_row_of : Stmt := top 19
theorem sc_row_of : FnScope ["thing"] ["thing"] (defScope s_row_of) := ⟨rfl, rfl, rfl, by decide +kernel, rfl, by decide +kernel, by decide +kernel⟩
abbrev s_sent_from : Stmt := top 20
theorem sc_sent_from : FnScope ["line"] ["line"] (defScope s_sent_from) := ⟨rfl, rfl, rfl, by decide +kernel, rfl, by decide +kernel, by decide +kernel⟩
abbrev s_dial_of : Stmt := top 21
theorem sc_dial_of : FnScope ["engine"] ["engine"] (defScope s_dial_of) := ⟨rfl, rfl, rfl, by decide +kernel, rfl, by decide +kernel, by decide +kernel⟩
abbrev s_is_line : Stmt := top 22
theorem sc_is_line : FnScope ["thing"] ["thing"] (defScope s_is_line) := ⟨rfl, rfl, rfl, by decide +kernel, rfl, by decide +kernel, by decide +kernel⟩
abbrev s_is_log : Stmt := top 25
theorem sc_is_log : FnScope ["thing", "row"] ["thing"] (defScope s_is_log) := ⟨rfl, rfl, rfl, by decide +kernel, rfl, by decide +kernel, by decide +kernel⟩
abbrev s_log_of : Stmt := top 26
theorem sc_log_of : FnScope ["rows", "at", "row"] ["rows"] (defScope s_log_of) := ⟨rfl, rfl, rfl, by decide +kernel, rfl, by decide +kernel, by decide +kernel⟩
abbrev s_wrong_at : Stmt := top 27
theorem sc_wrong_at : FnScope ["rows", "latest", "number", "row"] ["rows"] (defScope s_wrong_at) := ⟨rfl, rfl, rfl, by decide +kernel, rfl, by decide +kernel, by decide +kernel⟩
abbrev s_rows_on : Stmt := top 28
theorem sc_rows_on : FnScope ["log", "line", "number", "row"] ["log", "line"] (defScope s_rows_on) := ⟨rfl, rfl, rfl, by decide +kernel, rfl, by decide +kernel, by decide +kernel⟩
abbrev s_rows_between : Stmt := top 29
theorem sc_rows_between : FnScope ["log", "first", "last", "number", "row"] ["log", "first", "last"] (defScope s_rows_between) := ⟨rfl, rfl, rfl, by decide +kernel, rfl, by decide +kernel, by decide +kernel⟩
abbrev s_draw : Stmt := top 31
theorem sc_draw : FnScope ["_law_pen", "_law_many", "_law_digit", "_law_at", "_law_cell", "_law_number"] ["_law_pen", "_law_many"] (defScope s_draw) := ⟨rfl, rfl, rfl, by decide +kernel, rfl, by decide +kernel, by decide +kernel⟩
abbrev s_word : Stmt := top 32
theorem sc_word : FnScope ["_law_pen", "_law_some", "_law_letters", "_law_k"] ["_law_pen"] (defScope s_word) := ⟨rfl, rfl, rfl, by decide +kernel, rfl, by decide +kernel, by decide +kernel⟩
abbrev s_row : Stmt := top 33
theorem sc_row : FnScope ["_law_pen", "_law_minute_here", "_law_words", "_law_bell", "_law_order"] ["_law_pen", "_law_minute_here", "_law_words"] (defScope s_row) := ⟨rfl, rfl, rfl, by decide +kernel, rfl, by decide +kernel, by decide +kernel⟩
abbrev s_log : Stmt := top 34
theorem sc_log : FnScope ["_law_pen", "_law_most", "_law_many", "_law_words", "_law_at", "_law_made", "_law_k"] ["_law_pen", "_law_most"] (defScope s_log) := ⟨rfl, rfl, rfl, by decide +kernel, rfl, by decide +kernel, by decide +kernel⟩
abbrev s_on : Stmt := top 35
theorem sc_on : FnScope ["_law_book", "_law_bell", "_law_found", "_law_number"] ["_law_book", "_law_bell"] (defScope s_on) := ⟨rfl, rfl, rfl, by decide +kernel, rfl, by decide +kernel, by decide +kernel⟩
abbrev s_in : Stmt := top 36
theorem sc_in : FnScope ["_law_book", "_law_low", "_law_high", "_law_found", "_law_number"] ["_law_book", "_law_low", "_law_high"] (defScope s_in) := ⟨rfl, rfl, rfl, by decide +kernel, rfl, by decide +kernel, by decide +kernel⟩
abbrev s_minute : Stmt := top 37
theorem sc_minute : FnScope ["_law_pen", "_law_book", "_law_minutes", "_law_row_here"] ["_law_pen", "_law_book"] (defScope s_minute) := ⟨rfl, rfl, rfl, by decide +kernel, rfl, by decide +kernel, by decide +kernel⟩
abbrev s_lines_right : Stmt := top 38
theorem sc_lines_right : FnScope ["_law_book", "_law_bell", "_law_due", "_law_turn", "_law_found"] ["_law_book"] (defScope s_lines_right) := ⟨rfl, rfl, rfl, by decide +kernel, rfl, by decide +kernel, by decide +kernel⟩
abbrev s_named : Stmt := top 39
theorem sc_named : FnScope ["_law_book", "_law_one", "_law_houses", "_law_bell"] ["_law_book"] (defScope s_named) := ⟨rfl, rfl, rfl, by decide +kernel, rfl, by decide +kernel, by decide +kernel⟩
abbrev s_law : Stmt := top 40
theorem sc_law : FnScope ["_law_script", "_law_pen", "_law_turn", "_law_book", "_law_kept", "_law_again", "_law_low", "_law_high", "_law_due", "_law_found"] ["_law_script"] (defScope s_law) := ⟨rfl, rfl, rfl, by decide +kernel, rfl, by decide +kernel, by decide +kernel⟩
structure Txt (w : World) (K : PySem.W.Frag) (mg : Str → Option Value) where
  a_is_whole : Addr
  d_is_whole : FuncData
  F_is_whole : Fun K "is_whole" "is_whole" s_is_whole a_is_whole d_is_whole
  b_is_whole : Binds K d_is_whole ["thing"] []
  g_is_whole : mg "is_whole" = some (.ref a_is_whole)
  a_is_minute : Addr
  d_is_minute : FuncData
  F_is_minute : Fun K "is_minute" "is_minute" s_is_minute a_is_minute d_is_minute
  b_is_minute : Binds K d_is_minute ["thing"] []
  g_is_minute : mg "is_minute" = some (.ref a_is_minute)
  a_is_order : Addr
  d_is_order : FuncData
  F_is_order : Fun K "is_order" "is_order" s_is_order a_is_order d_is_order
  b_is_order : Binds K d_is_order ["thing"] []
  g_is_order : mg "is_order" = some (.ref a_is_order)
  a_is_name : Addr
  d_is_name : FuncData
  F_is_name : Fun K "is_name" "is_name" s_is_name a_is_name d_is_name
  b_is_name : Binds K d_is_name ["thing"] []
  g_is_name : mg "is_name" = some (.ref a_is_name)
  a_is_row : Addr
  d_is_row : FuncData
  F_is_row : Fun K "is_row" "is_row" s_is_row a_is_row d_is_row
  b_is_row : Binds K d_is_row ["thing"] []
  g_is_row : mg "is_row" = some (.ref a_is_row)
  a_makes_row : Addr
  d_makes_row : FuncData
  F_makes_row : Fun K "makes_row" "makes_row" s_makes_row a_makes_row d_makes_row
  b_makes_row : Binds K d_makes_row ["thing"] []
  g_makes_row : mg "makes_row" = some (.ref a_makes_row)
  a_row_of : Addr
  d_row_of : FuncData
  F_row_of : Fun K "row_of" "row_of" s_row_of a_row_of d_row_of
  b_row_of : Binds K d_row_of ["thing"] []
  g_row_of : mg "row_of" = some (.ref a_row_of)
  a_sent_from : Addr
  d_sent_from : FuncData
  F_sent_from : Fun K "sent_from" "sent_from" s_sent_from a_sent_from d_sent_from
  b_sent_from : Binds K d_sent_from ["line"] []
  g_sent_from : mg "sent_from" = some (.ref a_sent_from)
  a_dial_of : Addr
  d_dial_of : FuncData
  F_dial_of : Fun K "dial_of" "dial_of" s_dial_of a_dial_of d_dial_of
  b_dial_of : Binds K d_dial_of ["engine"] []
  g_dial_of : mg "dial_of" = some (.ref a_dial_of)
  a_is_line : Addr
  d_is_line : FuncData
  F_is_line : Fun K "is_line" "is_line" s_is_line a_is_line d_is_line
  b_is_line : Binds K d_is_line ["thing"] []
  g_is_line : mg "is_line" = some (.ref a_is_line)
  a_is_log : Addr
  d_is_log : FuncData
  F_is_log : Fun K "is_log" "is_log" s_is_log a_is_log d_is_log
  b_is_log : Binds K d_is_log ["thing"] []
  g_is_log : mg "is_log" = some (.ref a_is_log)
  a_log_of : Addr
  d_log_of : FuncData
  F_log_of : Fun K "log_of" "log_of" s_log_of a_log_of d_log_of
  b_log_of : Binds K d_log_of ["rows"] []
  g_log_of : mg "log_of" = some (.ref a_log_of)
  a_wrong_at : Addr
  d_wrong_at : FuncData
  F_wrong_at : Fun K "wrong_at" "wrong_at" s_wrong_at a_wrong_at d_wrong_at
  b_wrong_at : Binds K d_wrong_at ["rows"] []
  g_wrong_at : mg "wrong_at" = some (.ref a_wrong_at)
  a_rows_on : Addr
  d_rows_on : FuncData
  F_rows_on : Fun K "rows_on" "rows_on" s_rows_on a_rows_on d_rows_on
  b_rows_on : Binds K d_rows_on ["log", "line"] []
  g_rows_on : mg "rows_on" = some (.ref a_rows_on)
  a_rows_between : Addr
  d_rows_between : FuncData
  F_rows_between : FunD K "rows_between" "rows_between" (defArgs s_rows_between) (defBody s_rows_between) (defScope s_rows_between) [V.int (0), V.int (99999)] [] a_rows_between d_rows_between
  ds1_rows_between : List Value
  v1_rows_between : Vals ([V.int (0), V.int (99999)] : List V) ds1_rows_between
  b1_rows_between : Binds K d_rows_between ["log", "first", "last"] ds1_rows_between
  ds3_rows_between : List Value
  v3_rows_between : Vals ([] : List V) ds3_rows_between
  b3_rows_between : Binds K d_rows_between ["log", "first", "last"] ds3_rows_between
  g_rows_between : mg "rows_between" = some (.ref a_rows_between)
  a_draw : Addr
  d_draw : FuncData
  F_draw : Fun K "_law_draw" "_law_draw" s_draw a_draw d_draw
  b_draw : Binds K d_draw ["_law_pen", "_law_many"] []
  g_draw : mg "_law_draw" = some (.ref a_draw)
  a_word : Addr
  d_word : FuncData
  F_word : Fun K "_law_word" "_law_word" s_word a_word d_word
  b_word : Binds K d_word ["_law_pen"] []
  g_word : mg "_law_word" = some (.ref a_word)
  a_row : Addr
  d_row : FuncData
  F_row : Fun K "_law_row" "_law_row" s_row a_row d_row
  b_row : Binds K d_row ["_law_pen", "_law_minute_here", "_law_words"] []
  g_row : mg "_law_row" = some (.ref a_row)
  a_log : Addr
  d_log : FuncData
  F_log : Fun K "_law_log" "_law_log" s_log a_log d_log
  b_log : Binds K d_log ["_law_pen", "_law_most"] []
  g_log : mg "_law_log" = some (.ref a_log)
  a_on : Addr
  d_on : FuncData
  F_on : Fun K "_law_on" "_law_on" s_on a_on d_on
  b_on : Binds K d_on ["_law_book", "_law_bell"] []
  g_on : mg "_law_on" = some (.ref a_on)
  a_in : Addr
  d_in : FuncData
  F_in : Fun K "_law_in" "_law_in" s_in a_in d_in
  b_in : Binds K d_in ["_law_book", "_law_low", "_law_high"] []
  g_in : mg "_law_in" = some (.ref a_in)
  a_minute : Addr
  d_minute : FuncData
  F_minute : Fun K "_law_minute" "_law_minute" s_minute a_minute d_minute
  b_minute : Binds K d_minute ["_law_pen", "_law_book"] []
  g_minute : mg "_law_minute" = some (.ref a_minute)
  a_lines_right : Addr
  d_lines_right : FuncData
  F_lines_right : Fun K "_law_lines_right" "_law_lines_right" s_lines_right a_lines_right d_lines_right
  b_lines_right : Binds K d_lines_right ["_law_book"] []
  g_lines_right : mg "_law_lines_right" = some (.ref a_lines_right)
  a_named : Addr
  d_named : FuncData
  F_named : Fun K "_law_named" "_law_named" s_named a_named d_named
  b_named : Binds K d_named ["_law_book"] []
  g_named : mg "_law_named" = some (.ref a_named)
  a_law : Addr
  d_law : FuncData
  F_law : Fun K "law" "law" s_law a_law d_law
  b_law : Binds K d_law ["_law_script"] []
  g_law : mg "law" = some (.ref a_law)
  kb0_rows_on : KBinds K d_rows_on ["log", "line"] ["line", "log"] (fun us ws => match us, ws with | [], [x0, x1] => [x1, x0] | _, _ => []) (fun us ws => match us, ws with | [], [x0, x1] => [x1, x0] | _, _ => [])
  kb0_is_log : KBinds K d_is_log ["thing"] ["thing"] (fun us ws => match us, ws with | [], [x0] => [x0] | _, _ => []) (fun us ws => match us, ws with | [], [x0] => [x0] | _, _ => [])
  kb0_log_of : KBinds K d_log_of ["rows"] ["rows"] (fun us ws => match us, ws with | [], [x0] => [x0] | _, _ => []) (fun us ws => match us, ws with | [], [x0] => [x0] | _, _ => [])
  kb0_dial_of : KBinds K d_dial_of ["engine"] ["engine"] (fun us ws => match us, ws with | [], [x0] => [x0] | _, _ => []) (fun us ws => match us, ws with | [], [x0] => [x0] | _, _ => [])
  kb0_sent_from : KBinds K d_sent_from ["line"] ["line"] (fun us ws => match us, ws with | [], [x0] => [x0] | _, _ => []) (fun us ws => match us, ws with | [], [x0] => [x0] | _, _ => [])
  kb0_is_row : KBinds K d_is_row ["thing"] ["thing"] (fun us ws => match us, ws with | [], [x0] => [x0] | _, _ => []) (fun us ws => match us, ws with | [], [x0] => [x0] | _, _ => [])
  kb0_row_of : KBinds K d_row_of ["thing"] ["thing"] (fun us ws => match us, ws with | [], [x0] => [x0] | _, _ => []) (fun us ws => match us, ws with | [], [x0] => [x0] | _, _ => [])
  it0_rows_between : List Value
  kb0_rows_between : KBinds K d_rows_between ["log", "first", "last"] ["first"] (fun us ws => match us, (it0_rows_between : List _), ws with | [p0], [_, d1], [x0] => [p0, x0, d1] | _, _, _ => []) (fun us ws => match us, ([V.int (0), V.int (99999)] : List _), ws with | [p0], [_, d1], [x0] => [p0, x0, d1] | _, _, _ => [])
  it1_rows_between : List Value
  kb1_rows_between : KBinds K d_rows_between ["log", "first", "last"] ["last"] (fun us ws => match us, (it1_rows_between : List _), ws with | [p0], [d0, _], [x0] => [p0, d0, x0] | _, _, _ => []) (fun us ws => match us, ([V.int (0), V.int (99999)] : List _), ws with | [p0], [d0, _], [x0] => [p0, d0, x0] | _, _, _ => [])
  it2_rows_between : List Value
  kb2_rows_between : KBinds K d_rows_between ["log", "first", "last"] ["last", "log", "first"] (fun us ws => match us, (it2_rows_between : List _), ws with | [], [_, _], [x0, x1, x2] => [x1, x2, x0] | _, _, _ => []) (fun us ws => match us, ([V.int (0), V.int (99999)] : List _), ws with | [], [_, _], [x0, x1, x2] => [x1, x2, x0] | _, _, _ => [])
  z_abs : mg "abs" = none
  z_all : mg "all" = none
  z_bool : mg "bool" = none
  z_enumerate : mg "enumerate" = none
  z_int : mg "int" = none
  z_isinstance : mg "isinstance" = none
  z_len : mg "len" = none
  z_list : mg "list" = none
  z_min : mg "min" = none
  z_range : mg "range" = none
  z_repr : mg "repr" = none
  z_str : mg "str" = none
  z_tuple : mg "tuple" = none
  D_DIALS : Addr
  c_DIALS : mg "DIALS" = some (.ref D_DIALS)
  es_DIALS : Array DictEntry
  n_DIALS : Nat
  kD_DIALS : KDict K w D_DIALS es_DIALS n_DIALS
  ki_DIALS : ∀ p ∈ ([("port", V.str "aport"), ("star", V.str "astar")] : List (Str × V)), ∃ u, PySem.W.nsIn K D_DIALS p.1 = some (some u) ∧ RelV p.2 u
  kd_DIALS : ∀ p ∈ ([("port", V.str "aport"), ("star", V.str "astar")] : List (Str × V)), KDct K w D_DIALS p.1 p.2
  t_FULL_AHEAD : Tok
  c_FULL_AHEAD : mg "FULL_AHEAD" = some (.int (4) t_FULL_AHEAD)
  t_FULL_ASTERN : Tok
  c_FULL_ASTERN : mg "FULL_ASTERN" = some (.int (-4) t_FULL_ASTERN)
  t_LAST_MINUTE : Tok
  c_LAST_MINUTE : mg "LAST_MINUTE" = some (.int (99999) t_LAST_MINUTE)
  t_LONGEST_NAME : Tok
  c_LONGEST_NAME : mg "LONGEST_NAME" = some (.int (8) t_LONGEST_NAME)
  t_MOST_ROWS : Tok
  c_MOST_ROWS : mg "MOST_ROWS" = some (.int (40) t_MOST_ROWS)
  D_SENDERS : Addr
  c_SENDERS : mg "SENDERS" = some (.ref D_SENDERS)
  es_SENDERS : Array DictEntry
  n_SENDERS : Nat
  kD_SENDERS : KDict K w D_SENDERS es_SENDERS n_SENDERS
  ki_SENDERS : ∀ p ∈ ([("port", V.str "bridge"), ("star", V.str "bridge"), ("down", V.str "bridge"), ("aport", V.str "room"), ("astar", V.str "room"), ("up", V.str "room")] : List (Str × V)), ∃ u, PySem.W.nsIn K D_SENDERS p.1 = some (some u) ∧ RelV p.2 u
  kd_SENDERS : ∀ p ∈ ([("port", V.str "bridge"), ("star", V.str "bridge"), ("down", V.str "bridge"), ("aport", V.str "room"), ("astar", V.str "room"), ("up", V.str "room")] : List (Str × V)), KDct K w D_SENDERS p.1 p.2
  D_TUBES : Addr
  c_TUBES : mg "TUBES" = some (.ref D_TUBES)
  kt_TUBES : ∀ H : Hp, SqT K H D_TUBES [V.str "down", V.str "up"]
/-! a step of a reading whose answer is fixed: a name, a number's operation -/
local macro_rules | `(tactic| walk_at "rd") => `(tactic| (first
  | refine ⟨_, rfl, ?_⟩
  | refine ⟨_, _, rfl, rfl, ?_⟩
  | (refine And.intro ?rdc ?_; (case rdc => first | decide | omega | exact ⟨by omega, by omega⟩ | exact ⟨by decide, by decide, by omega⟩ | exact .inl ⟨by omega, by omega⟩ | exact .inr ⟨by omega, by omega⟩))))
section
variable {P : Program} {w : World} {K : PySem.W.Frag} {mg : Str → Option Value} {base : Heap}
/-! ### the pen -/
theorem ints_shaped : ∀ ns : List Int, PyData.canLayAll0 (ns.map PyData.int) = true ∧ PyData.depthAll (ns.map PyData.int) ≤ 1
  | [] => ⟨rfl, Nat.zero_le _⟩
  | n :: r => by
    obtain ⟨h1, h2⟩ := ints_shaped r
    exact ⟨h1, Nat.max_le.mpr ⟨Nat.zero_le _, h2⟩⟩
theorem ints_eqv (ns : List Int) : PyData.eqv (.list (ns.map PyData.int)) (.list []) = decide (ns = []) := by
  cases ns <;> rfl
def spDraw (K : PySem.W.Frag) : Sp := fun vs H Q _ => ∃ (p c : Addr) (n : Nat) (m : Int), vs = [.ref p, .int m] ∧ PenAt H p c n ∧ Cells K H p c ∧ n ≤ 100000 ∧ 1 ≤ m ∧ m < 1073741824 ∧
  ∀ H' r, Go K p c H (n + 1) H' → 0 ≤ r → r < m → Q (.int r) H'
theorem ok_draw (T : Txt w K mg) : FnOk P w K mg base CX0 1 T.a_draw T.d_draw ["_law_pen", "_law_many"] (spDraw K) := by
  refine T.F_draw.ok sc_draw (fun vs H Q E h => ?_) (fun cdv A outer s H vs Q E hr h => ?_)
  · obtain ⟨p, c, n, m, rfl, _⟩ := h
    rfl
  · obtain ⟨p, c, n, m, rfl, hp, hc, hn, hm1, hm2, q⟩ := h
    obtain ⟨at_, cy, e, h0, h1, h2⟩ := id hp
    obtain ⟨ne, ns, hS, hl⟩ := id hc
    refine ⟨_, (pss_cons (ps_if (pt_cmpR op_gt (pe_ix (kx_list K) (pv 0) pe_int (fun _ _ => rfl)) pe_int (nomark _)) (pss_cons (ps_set (i := 2) sc_draw.nd rfl (by first | exact Or.inl rfl | exact Or.inr rfl) (pe_op op_modN (pe_ix (kx_list K) (pv 0) pe_int (fun _ _ => rfl)) (pv 1)))
  (pss_cons (ps_asg (pe_op op_fdivN (pe_ix (kx_list K) (pv 0) pe_int (fun _ _ => rfl)) (pv 1)) (pg_sub (pv 0) pe_int set_list))
  (pss_one (ps_ret (pv 2))))) pss_nil)
  (pss_cons (ps_set (i := 3) sc_draw.nd rfl (by first | exact Or.inl rfl | exact Or.inr rfl) (pe_ix (kx_list K) (pv 0) pe_int (fun _ _ => rfl)))
  (pss_cons (ps_asg (pe_op op_add (pv 3) pe_int) (pg_sub (pv 0) pe_int set_list))
  (pss_cons (ps_set (i := 4) sc_draw.nd rfl (by first | exact Or.inl rfl | exact Or.inr rfl) (pe_op op_add (pe_op op_mul pe_int (pv 3)) pe_int))
  (C8.pss_cut (ps_if (pt_cmpR (k_neD K hr.units) (pe_ix (kx_list K) (pv 0) pe_int (fun _ _ => rfl)) (pe_lst pa_nil) (nomark _)) (pss_one (ps_set (i := 4) sc_draw.nd rfl (by first | exact Or.inl rfl | exact Or.inr rfl) (pe_ix (kx_list K) (pe_ix (kx_list K) (pv 0) pe_int (fun _ _ => rfl)) (pe_op op_modN (pv 3) (pe_callB (k_len K) (by rfl) T.z_len (by decide +kernel) (pa_cons (pe_ix (kx_list K) (pv 0) pe_int (fun _ _ => rfl)) pa_nil))) (fun _ _ => rfl)))) pss_nil)
  (C8.pss_cut (ps_if (PW.pt (pw_and (pt_cmpR op_lt (pv 3) (pe_callB (k_len K) (by rfl) T.z_len (by decide +kernel) (pa_cons (pe_ix (kx_list K) (pv 0) pe_int (fun _ _ => rfl)) pa_nil)) (nomark _)) (pw_and1 (pt_cmpR op_ge (pe_callB call_abs (by rfl) T.z_abs (by decide +kernel) (pa_cons (pv 4) pa_nil)) (pe_op op_pow pe_int pe_int) (nomark _))))) (pss_cons (ps_asg (pe_op op_fdivN (pe_callB call_abs (by rfl) T.z_abs (by decide +kernel) (pa_cons (pv 4) pa_nil)) (pv 1)) (pg_sub (pv 0) pe_int set_list))
  (pss_one (ps_ret (pe_op op_modN (pe_callB call_abs (by rfl) T.z_abs (by decide +kernel) (pa_cons (pv 4) pa_nil)) (pv 1))))) pss_nil)
  (pss_cons (ps_set (i := 5) sc_draw.nd rfl (by first | exact Or.inl rfl | exact Or.inr rfl) (pe_op op_modN (pe_op op_pow (pe_op op_add (pe_op op_add (pe_op op_modN (pv 4) pe_int) (pe_op op_mul pe_int (pv 3))) pe_int) pe_int) pe_int))
  (pss_cons (ps_set (i := 5) sc_draw.nd rfl (by first | exact Or.inl rfl | exact Or.inr rfl) (pe_op op_modN (pe_op op_pow (pe_op op_add (pe_op op_mul (pv 5) (pe_op op_add (pe_op op_mul pe_int (pv 3)) pe_int)) pe_int) pe_int) pe_int))
  (pss_one (ps_ret (pe_op op_modN (pe_op op_fdivN (pv 5) pe_int) (pv 1)))))))))))), ?_⟩
    refine ⟨_, rfl, p, _, 2, _, rfl, rfl, SqL.of e, rfl, _, _, rfl, rfl, _, rfl, ite2 (fun t => ?_) (fun t => ?_)⟩
    · -- a rest is left
      have t' : 0 < cy := of_decide_eq_true t
      refine ⟨_, rfl, p, _, 2, _, rfl, rfl, SqL.of e, rfl, _, rfl, _, _, rfl, rfl, (by omega), ?_⟩
      refine ⟨_, rfl, p, _, 2, _, rfl, rfl, SqL.of e, rfl, _, rfl, _, _, rfl, rfl, ⟨by omega, by omega⟩, ?_⟩
      refine ⟨_, rfl, p, _, 2, 2, rfl, rfl, e, rfl, ?_⟩
      refine ⟨_, rfl, q _ _ (Go.make hc But.put upd_same h0 (by omega) (fdiv_ge h2 (by omega))) (fmod_ge (by omega)) (fmod_lt (by omega))⟩
    · refine ⟨_, rfl, p, _, 1, _, rfl, rfl, SqL.of e, rfl, ?_⟩
      refine ⟨_, rfl, _, _, rfl, rfl, _, rfl, p, _, 1, 1, rfl, rfl, e, rfl, ?_⟩
      -- the place goes on
      have e1 : upd H p (.lst ([V.ref c, V.int at_, V.int cy].set 1 (V.int (at_ + 1)))) p = some (.lst [V.ref c, V.int (at_ + 1), V.int cy]) := upd_same
      have b1 : But p H (upd H p (.lst ([V.ref c, V.int at_, V.int cy].set 1 (V.int (at_ + 1))))) := But.put
      generalize upd H p (.lst ([V.ref c, V.int at_, V.int cy].set 1 (V.int (at_ + 1)))) = H1 at e1 b1 ⊢
      have hS1 := b1.seqL ne hS
      refine ⟨_, rfl, _, _, rfl, rfl, .inl ⟨by omega, by omega⟩, _, _, rfl, rfl, ?_⟩
      -- the cell
      refine ⟨fun σ' H' => ∃ cell : Int, σ' = [some (.ref p), some (.int m), none, some (.int at_), some (.int cell), none] ∧ But p H H' ∧ H' p = some (.lst [.ref c, .int (at_ + 1), .int cy]), ?_, ?_⟩
      · refine ⟨_, rfl, p, _, 0, _, rfl, rfl, SqL.of e1, rfl, (by show 0 ≤ sizeLine; decide), fun z hz => ?_⟩
        generalize hX : upd H1 z _ = H2
        obtain ⟨S2, f2⟩ := alloc hz hX
        clear hX
        have b2 : But p H H2 := b1.trans (But.of_same S2)
        have hS2 := b2.seqL ne hS
        have e2 := S2 _ _ e1
        refine ⟨.list (ns.map PyData.int), .list [], .lst hS2 (dpAll_ints ns), .lst (SqL.of f2) .nil, ?_, by decide +kernel, _, rfl, ?_⟩
        · unfold SeqAt.shaped
          obtain ⟨q1, q2⟩ := ints_shaped ns
          have q3 : PyData.canLay0 (.list (ns.map PyData.int)) = true := q1
          rw [q3, Bool.true_and]
          refine decide_eq_true ?_
          simp only [PyData.depth]
          omega
        · rw [ints_eqv]
          by_cases hne : ns = []
          · rw [decide_eq_true hne]
            exact ⟨_, rfl, b2, e2⟩
          · rw [decide_eq_false hne]
            have l0 : 0 < (ns.map V.int).length := by
              rw [List.length_map]
              exact List.length_pos_iff.mpr hne
            obtain ⟨v, hv, ev⟩ := atI_fmod (xs := ns.map V.int) (i := at_) l0
            obtain ⟨z, _, rfl⟩ := List.mem_map.mp hv
            exact ⟨_, rfl, p, _, 0, _, rfl, rfl, SqL.of e2, rfl, _, rfl, _, rfl, p, _, 0, _, rfl, rfl, SqL.of e2, rfl, c, _, rfl, .inl hS2, _, _, rfl, rfl, (by omega), c, _, _, _, rfl, rfl, hS2, ev, z, rfl, b2, e2⟩
      · clear e1 b1 hS1
        rintro σ' H2 ⟨cell, rfl, b1, e1⟩
        have hS1 := b1.seqL ne hS
        refine ⟨fun σ2 H3 => σ2 = [some (.ref p), some (.int m), none, some (.int at_), some (.int cell), none] ∧ H3 = H2, ?_, ?_⟩
        · refine ⟨_, rfl, _, rfl, p, _, 0, _, rfl, rfl, SqL.of e1, rfl, c, _, rfl, .inl hS1, _, _, rfl, rfl, _, rfl, ite2 (fun t3 => ?_) (fun t3 => iteF ⟨rfl, rfl⟩)⟩
          refine ⟨_, rfl, _, rfl, _, _, rfl, rfl, ⟨by decide, by decide, by decide⟩, _, _, rfl, rfl, _, rfl, ite2 (fun t4 => ?_) (fun t4 => ⟨rfl, rfl⟩)⟩
          have habs : (0 : Int) ≤ if cell < 0 then -cell else cell := by
            split <;> omega
          refine ⟨_, rfl, _, rfl, _, rfl, _, _, rfl, rfl, ⟨by omega, by omega⟩, _, rfl, p, _, 2, 2, rfl, rfl, e1, rfl, ?_⟩
          exact ⟨_, rfl, _, rfl, _, rfl, _, _, rfl, rfl, (by omega), q _ _ (Go.make hc (b1.trans But.put) upd_same (by omega) (by omega) (fdiv_ge habs (by omega))) (fmod_ge (by omega)) (fmod_lt (by omega))⟩
        · rintro σ2 H3 ⟨rfl, rfl⟩
          have a1 := fmod_ge (a := cell) (b := 2147483629) (by decide)
          have a2 := fmod_lt (a := cell) (b := 2147483629) (by decide)
          have z1 := fmod_ge (a := (cell.fmod 2147483629 + 50021 * at_ + 7) ^ Int.toNat 3) (b := 2147483587) (by decide)
          have z2 := fmod_lt (a := (cell.fmod 2147483629 + 50021 * at_ + 7) ^ Int.toNat 3) (b := 2147483587) (by decide)
          have y1 : 0 ≤ ((cell.fmod 2147483629 + 50021 * at_ + 7) ^ Int.toNat 3).fmod 2147483587 * (2 * at_ + 3) := Int.mul_nonneg z1 (by omega)
          have y2 : ((cell.fmod 2147483629 + 50021 * at_ + 7) ^ Int.toNat 3).fmod 2147483587 * (2 * at_ + 3) ≤ 2147483587 * 200003 := Int.mul_le_mul (by omega) (by omega) (by omega) (by decide)
          repeat (walk_at "rd")
          exact q _ _ (Go.make hc b1 e1 (by omega) (by omega) h2) (fmod_ge (by omega)) (fmod_lt (by omega))

/-! ### a word -/
def NameOk (t : Str) : Prop := 1 ≤ t.length ∧ t.length ≤ 8 ∧ ∀ c ∈ t.cps.toList, 97 ≤ c ∧ c ≤ 122
theorem NameOk.tok {t : Str} (h : NameOk t) : TOk 8 t := ⟨h.2.1, fun c hc => by have := (h.2.2 c hc).2; omega⟩
theorem letter_ok2 {c : Nat} (h : c ∈ ("abcdefghijklmnopqrstuvwxyz" : Str).cps.toList) : 97 ≤ c ∧ c ≤ 122 :=
  (show ∀ c ∈ ("abcdefghijklmnopqrstuvwxyz" : Str).cps.toList, 97 ≤ c ∧ c ≤ 122 by decide +kernel) c h
def spWord (K : PySem.W.Frag) : Sp := fun vs H Q _ => ∃ (p c : Addr) (n : Nat), vs = [.ref p] ∧ PenAt H p c n ∧ Cells K H p c ∧ n ≤ 90000 ∧
  ∀ H' t, Go K p c H (n + 11) H' → NameOk t → Q (.str t) H'
theorem ok_word (T : Txt w K mg) : FnOk P w K mg base CX0 2 T.a_word T.d_word ["_law_pen"] (spWord K) := by
  have G_draw := ok_draw (P := P) (base := base) T
  refine T.F_word.ok sc_word (fun vs H Q E h => ?_) (fun cdv A outer s H vs Q E hr h => ?_)
  · obtain ⟨p, c, n, rfl, _⟩ := h
    rfl
  · obtain ⟨p, c, n, rfl, hp, hc, hn, k⟩ := h
    have hr_draw := hr
    refine ⟨_, (pss_cons (ps_set (i := 1) sc_word.nd rfl (by first | exact Or.inl rfl | exact Or.inr rfl) (pe_lst (pa_cons pe_str (pa_cons pe_str (pa_cons pe_str (pa_cons pe_str (pa_cons pe_str (pa_cons pe_str (pa_cons pe_str (pa_cons pe_str (pa_cons pe_str (pa_cons pe_str pa_nil))))))))))))
  (pss_cons (ps_if (pt_cmpR op_eq (pe_call G_draw hr_draw (by rfl) T.g_draw T.F_draw.kp T.b_draw .nil pass0 (pa_cons (pv 0) (pa_cons pe_int pa_nil))) pe_int (nomark _)) (pss_one (ps_ret (pe_ix (kx_list K) (pv 1) (pe_call G_draw hr_draw (by rfl) T.g_draw T.F_draw.kp T.b_draw .nil pass0 (pa_cons (pv 0) (pa_cons pe_int pa_nil))) (fun _ _ => rfl)))) pss_nil)
  (pss_cons (ps_set (i := 2) sc_word.nd rfl (by first | exact Or.inl rfl | exact Or.inr rfl) pe_str)
  (pss_one (ps_ret (pe_join pe_str (pe_lc (own := [("_law_k", 3)]) rfl sc_word.nd (pi_range1 (by rfl) T.z_range (pa_cons (pe_ix (kx_list K) (pe_lst (pa_cons pe_int (pa_cons pe_int (pa_cons (pe_op op_add pe_int (pe_call G_draw hr_draw (by rfl) T.g_draw T.F_draw.kp T.b_draw .nil pass0 (pa_cons (pv 0) (pa_cons pe_int pa_nil)))) pa_nil)))) (pe_call G_draw hr_draw (by rfl) T.g_draw T.F_draw.kp T.b_draw .nil pass0 (pa_cons (pv 0) (pa_cons pe_int pa_nil))) (fun _ _ => rfl)) pa_nil)) (blkOk_by (own := [("_law_k", 3)]) (N := ["_law_pen", "_law_some", "_law_letters", "_law_k"]) (sc := defScope s_word) (by decide +kernel)) (fun _ _ _ _ _ => (pg_name (i := 3) sc_word.nd rfl (by first | exact Or.inl rfl | exact Or.inr rfl))) (fun _ _ _ _ _ => pts_nil) (fun _ _ _ _ _ => (pe_ix ix_str (pv 2) (pe_call G_draw hr_draw (by rfl) T.g_draw T.F_draw.kp T.b_draw .nil pass0 (pa_cons (pv 0) (pa_cons pe_int pa_nil))) (fun _ _ => rfl)))))))))), ?_⟩
    refine ⟨(by show 10 ≤ sizeLine; decide), fun l hl => ?_⟩
    generalize hX : upd H l _ = H1
    obtain ⟨S1, f1⟩ := alloc hl hX
    have g1 := (Go.refl hp hc).same S1
    have nl := Ne.symm ((Go.refl hp hc).ne_new hl)
    clear hX
    refine ⟨_, rfl, p, c, n, _, rfl, g1.pen, g1.cel, by omega, by decide, by decide, fun H2 r2 g2 a2 b2 => ⟨rfl, _, rfl, ite2 (fun z => ?_) (fun z => ?_)⟩⟩
    · refine ⟨_, rfl, _, rfl, p, c, _, _, rfl, g2.pen, g2.cel, by omega, by decide, by decide, fun H3 r3 g3 a3 b3 => ?_⟩
      obtain ⟨v, hv, ev⟩ := atI_lt (xs := [V.str "port", V.str "star", V.str "down", V.str "up", V.str "aport", V.str "stop", V.str "full", V.str "bridge", V.str "room", V.str "none"]) a3 (by show r3 < ((10 : Nat) : Int); exact b3)
      obtain ⟨t, rfl, ot⟩ : ∃ t, v = V.str t ∧ NameOk t := by
        have q : v = V.str "port" ∨ v = V.str "star" ∨ v = V.str "down" ∨ v = V.str "up" ∨ v = V.str "aport" ∨ v = V.str "stop" ∨ v = V.str "full" ∨ v = V.str "bridge" ∨ v = V.str "room" ∨ v = V.str "none" := by simpa using hv
        rcases q with q | q | q | q | q | q | q | q | q | q <;> exact ⟨_, q, by decide +kernel, by decide +kernel, by decide +kernel⟩
      exact ⟨l, _, _, _, rfl, rfl, (g2.trans g3).but.seqL nl (SqL.of f1), ev, k _ _ ((g1.trans (g2.trans g3)).mono (by omega)) ot⟩
    · refine ⟨⟨_, rfl⟩, ?_⟩
      refine ⟨_, rfl, p, c, _, _, rfl, g2.pen, g2.cel, by omega, by decide, by decide, fun H3 r3 g3 a3 b3 => ?_⟩
      refine ⟨_, _, rfl, rfl, (by show 3 ≤ sizeLine; decide), fun l2 hl2 => ?_⟩
      generalize hX : upd H3 l2 _ = H4
      obtain ⟨S4, f4⟩ := alloc hl2 hX
      have g4 := g3.same S4
      have nl2 := Ne.symm (g3.ne_new hl2)
      clear hX
      refine ⟨_, rfl, p, c, _, _, rfl, g4.pen, g4.cel, by omega, by decide, by decide, fun H5 r5 g5 a5 b5 => ?_⟩
      obtain ⟨v, hv, ev⟩ := atI_lt (xs := [V.int 1, V.int 8, V.int (1 + r3)]) a5 (by show r5 < ((3 : Nat) : Int); exact b5)
      obtain ⟨m, rfl, m1, m8⟩ : ∃ m : Int, v = V.int m ∧ 1 ≤ m ∧ m ≤ 8 := by
        have q : v = V.int 1 ∨ v = V.int 8 ∨ v = V.int (1 + r3) := by simpa using hv
        rcases q with q | q | q <;> exact ⟨_, q, by omega, by omega⟩
      refine ⟨l2, _, _, _, rfl, rfl, g5.but.seqL nl2 (SqL.of f4), ev, _, rfl, by omega, by omega, fun D hD => ?_⟩
      have G5 := g1.trans (g2.trans (g4.trans g5))
      have hD0 := G5.free hD
      have nD : D ≠ p := Ne.symm (G5.ne_new hD)
      refine lc_it walk_range (fun i H' => Go K p c H (n + 3 + i) H' ∧ ∃ cs : List Nat, H' D = some (.lst (cs.map fun c => V.str ⟨#[c]⟩)) ∧ cs.length = i ∧ ∀ c ∈ cs, 97 ≤ c ∧ c ≤ 122)
        ⟨(G5.new hD).mono (by omega), [], upd_same, rfl, fun x hx => nomatch hx⟩ (fun _ _ _ _ => trivial) ?_ ?_
      · rintro i x _ H6 hi ⟨g6, cs, e6, l6, o6⟩ ⟨rfl, rfl⟩
        refine ⟨rfl, _, rfl, _, rfl, p, c, n + 3 + i, 26, rfl, g6.pen, g6.cel, by omega, by decide, by decide, fun H7 r7 g7 q0 q1 => ?_⟩
        have e7 := g7.but D _ nD e6
        obtain ⟨c4, hc4, ec4⟩ := atI_lt (xs := ("abcdefghijklmnopqrstuvwxyz" : Str).cps.toList) q0 (show r7 < ((26 : Nat) : Int) from q1)
        refine ⟨_, r7, c4, rfl, rfl, by decide +kernel, ec4, _, e7, ?_, ?_⟩
        · rw [List.length_map]
          exact small1000 (by omega)
        · refine ⟨((g6.trans g7).own hD0 nD hc).mono (by omega), cs ++ [c4], ?_, by rw [List.length_append, l6]; rfl, fun x hx => ?_⟩
          · rw [upd_same, List.map_append]
            rfl
          · rcases List.mem_append.mp hx with hx | hx
            · exact o6 x hx
            · have : x = c4 := by simpa using hx
              subst this
              exact letter_ok2 hc4
      · rintro H6 ⟨g6, cs, e6, l6, o6⟩
        have codes : (Str.join (Str.ofString "") (cs.map fun c => (⟨#[c]⟩ : Str))).cps.toList = cs := by
          rw [codes_join0]
          clear e6 l6 o6
          induction cs with
          | nil => rfl
          | cons x r ih =>
            rw [List.map_cons, List.flatMap_cons, ih]
            simp
        have nm : NameOk (Txt.join (Str.ofString "") (cs.map fun c => (⟨#[c]⟩ : Str))) := by
          rw [TL.join_eq]
          refine ⟨?_, ?_, ?_⟩
          · rw [str_len, codes]
            omega
          · rw [str_len, codes]
            omega
          · rw [codes]
            exact o6
        have sum1 : ((cs.map fun c => (⟨#[c]⟩ : Str)).map (·.length)).sum = cs.length := by
          clear e6 l6 o6 codes nm
          induction cs with
          | nil => rfl
          | cons x r ih =>
            simp only [List.map_cons, List.sum_cons, List.length_cons, ih]
            show 1 + r.length = _
            omega
        refine ⟨_, D, (cs.map fun c => (⟨#[c]⟩ : Str)), rfl, rfl, .inl (SqL.of (by rw [e6, List.map_map]; rfl)), ?_, k _ _ (g6.mono (by omega)) nm⟩
        have : (Str.ofString "").length = 0 := by decide +kernel
        rw [this, sum1]
        omega

/-! ### a row -/
/-- a row as DOC asks, names by their letters -/
structure Row.Ok2 (r : Row) : Prop where
  ok : r.Ok
  nm : r.l ∈ tubes → ∃ t, r.w = .name t ∧ NameOk t
theorem wire_in (wire : Str) : inV (V.str wire) [V.str (Str.ofString "down"), V.str (Str.ofString "up")] = decide (wire ∈ tubes) := by
  rw [Bool.eq_iff_iff]
  simp only [inV, List.any_cons, List.any_nil, Bool.or_false, eqV, Bool.or_eq_true, beq_iff_eq, decide_eq_true_eq, tubes, List.mem_cons, List.not_mem_nil, or_false]
  constructor
  · rintro (z | z)
    · exact .inl z.symm
    · exact .inr z.symm
  · rintro (z | z)
    · exact .inl z.symm
    · exact .inr z.symm
def spRow (K : PySem.W.Frag) : Sp := fun vs H Q _ => ∃ (p c q : Addr) (n : Nat) (m : Int) (ws : List Str), vs = [.ref p, .int m, .ref q] ∧ PenAt H p c n ∧ Cells K H p c ∧ n ≤ 90000 ∧ 0 ≤ m ∧ m ≤ 99999 ∧
  SqL K H q (ws.map V.str) ∧ q ≠ p ∧ ws ≠ [] ∧ ws.length ≤ 1000 ∧ (∀ x ∈ ws, NameOk x) ∧ ∀ H' a (r : Row), Go K p c H (n + 4) H' → H a = none → H' a = some (.tup [.int r.m, .str r.l, r.w.v]) → r.Ok2 → r.m = m → Q (.ref a) H'
theorem ok_row (T : Txt w K mg) : FnOk P w K mg base CX0 2 T.a_row T.d_row ["_law_pen", "_law_minute_here", "_law_words"] (spRow K) := by
  have G_draw := ok_draw (P := P) (base := base) T
  refine T.F_row.ok sc_row (fun vs H Q E h => ?_) (fun cdv A outer s H vs Q E hr h => ?_)
  · obtain ⟨p, c, q, n, m, ws, rfl, _⟩ := h
    rfl
  · obtain ⟨p, c, q, n, m, ws, rfl, hp, hc, hn, m0, m1, hq, nq, hne, hwl, hws, k⟩ := h
    have hr_draw := hr
    refine ⟨_, (pss_cons (ps_set (i := 3) sc_row.nd rfl (by first | exact Or.inl rfl | exact Or.inr rfl) (pe_ix (kx_list K) (pe_lst (pa_cons pe_str (pa_cons pe_str (pa_cons pe_str (pa_cons pe_str (pa_cons pe_str (pa_cons pe_str pa_nil))))))) (pe_call G_draw hr_draw (by rfl) T.g_draw T.F_draw.kp T.b_draw .nil pass0 (pa_cons (pv 0) (pa_cons pe_int pa_nil))) (fun _ _ => rfl)))
  (pss_cons (ps_set (i := 4) sc_row.nd rfl (by first | exact Or.inl rfl | exact Or.inr rfl) (pe_ix (kx_list K) (pe_lst (pa_cons pe_int (pa_cons (pe_un un_neg pe_int) (pa_cons pe_int (pa_cons (pe_op op_sub (pe_call G_draw hr_draw (by rfl) T.g_draw T.F_draw.kp T.b_draw .nil pass0 (pa_cons (pv 0) (pa_cons pe_int pa_nil))) pe_int) pa_nil))))) (pe_call G_draw hr_draw (by rfl) T.g_draw T.F_draw.kp T.b_draw .nil pass0 (pa_cons (pv 0) (pa_cons pe_int pa_nil))) (fun _ _ => rfl)))
  (pss_one (ps_ret (pe_tup (pa_cons (pv 1) (pa_cons (pv 3) (pa_cons (pe_ix (kx_list K) (pe_lst (pa_cons (pv 4) (pa_cons (pe_ix (kx_list K) (pv 2) (pe_call G_draw hr_draw (by rfl) T.g_draw T.F_draw.kp T.b_draw .nil pass0 (pa_cons (pv 0) (pa_cons (pe_callB (k_len K) (by rfl) T.z_len (by decide +kernel) (pa_cons (pv 2) pa_nil)) pa_nil))) (fun _ _ => rfl)) pa_nil))) (pe_callTy call_int1 (by rfl) T.z_int (by decide +kernel) (pa_cons (pe_cmpR (k_in K) (pv 3) (pe_tup (pa_cons pe_str (pa_cons pe_str pa_nil))) (by rfl)) pa_nil)) (fun _ _ => rfl)) pa_nil)))))))), ?_⟩
    refine ⟨(by show 6 ≤ sizeLine; decide), fun l hl => ?_⟩
    generalize hX : upd H l _ = H1
    obtain ⟨S1, f1⟩ := alloc hl hX
    have g1 := (Go.refl hp hc).same S1
    have nl := Ne.symm ((Go.refl hp hc).ne_new hl)
    clear hX
    refine ⟨_, rfl, p, c, n, _, rfl, g1.pen, g1.cel, by omega, by decide, by decide, fun H2 r2 g2 a2 b2 => ?_⟩
    obtain ⟨v, hv, ev⟩ := atI_lt (xs := [V.str "port", V.str "star", V.str "aport", V.str "astar", V.str "down", V.str "up"]) a2 (by show r2 < ((6 : Nat) : Int); exact b2)
    obtain ⟨wire, rfl, ow⟩ : ∃ t, v = V.str t ∧ t ∈ lines6 := by
      have q : v = V.str "port" ∨ v = V.str "star" ∨ v = V.str "aport" ∨ v = V.str "astar" ∨ v = V.str "down" ∨ v = V.str "up" := by simpa using hv
      rcases q with q | q | q | q | q | q <;> exact ⟨_, q, by simp [lines6]⟩
    refine ⟨l, _, _, _, rfl, rfl, g2.but.seqL nl (SqL.of f1), ev, ?_⟩
    have G2 := g1.trans g2
    refine ⟨_, rfl, _, rfl, p, c, _, _, rfl, G2.pen, G2.cel, by omega, by decide, by decide, fun H3 r3 g3 a3 b3 => ?_⟩
    refine ⟨_, _, rfl, rfl, (by show 4 ≤ sizeLine; decide), fun l2 hl2 => ?_⟩
    generalize hX : upd H3 l2 _ = H4
    obtain ⟨S4, f4⟩ := alloc hl2 hX
    have g4 := g3.same S4
    have nl2 := Ne.symm (g3.ne_new hl2)
    clear hX
    refine ⟨_, rfl, p, c, _, _, rfl, g4.pen, g4.cel, by omega, by decide, by decide, fun H5 r5 g5 a5 b5 => ?_⟩
    obtain ⟨v, hv, ev⟩ := atI_lt (xs := [V.int 4, V.int (-4), V.int 0, V.int (r3 - 4)]) a5 (by show r5 < ((4 : Nat) : Int); exact b5)
    obtain ⟨ord, rfl, o0, o1⟩ : ∃ m : Int, v = V.int m ∧ -4 ≤ m ∧ m ≤ 4 := by
      have q : v = V.int 4 ∨ v = V.int (-4) ∨ v = V.int 0 ∨ v = V.int (r3 - 4) := by simpa using hv
      rcases q with q | q | q | q <;> exact ⟨_, q, by omega, by omega⟩
    refine ⟨l2, _, _, _, rfl, rfl, g5.but.seqL nl2 (SqL.of f4), ev, ?_⟩
    have G5 := G2.trans (g4.trans g5)
    have lpos : 0 < ws.length := List.length_pos_iff.mpr hne
    -- (minute, line, what)
    have hq5 := G5.but.seqL nq hq
    refine ⟨_, rfl, _, rfl, _, rfl, _, rfl, _, rfl, _, rfl, q, _, rfl, .inl hq5, p, c, _, _, rfl, G5.pen, G5.cel, by omega, by rw [List.length_map]; omega, by rw [List.length_map]; omega, fun H6 r6 g6 a6 b6 => ?_⟩
    obtain ⟨v, hv, ev6⟩ := atI_lt (xs := ws.map V.str) a6 b6
    obtain ⟨wd, hwd, rfl⟩ := List.mem_map.mp hv
    refine ⟨q, _, _, _, rfl, rfl, g6.but.seqL nq hq5, ev6, (by show 2 ≤ sizeLine; decide), fun l3 hl3 => ?_⟩
    generalize hX : upd H6 l3 _ = H7
    obtain ⟨S7, f7⟩ := alloc hl3 hX
    have g7 := g6.same S7
    clear hX
    refine ⟨_, rfl, (by show 2 ≤ sizeLine; decide), fun l4 hl4 => ?_⟩
    generalize hX : upd H7 l4 _ = H8
    obtain ⟨S8, f8⟩ := alloc hl4 hX
    have g8 := g7.same S8
    clear hX
    refine ⟨l4, _, rfl, .inr (SqT.of f8), rfl, rfl, .inr ⟨_, rfl, ?_⟩⟩
    show rIxL K _ (V.int (if inV (V.str wire) [V.str (Str.ofString "down"), V.str (Str.ofString "up")] = true then 1 else 0)) _ _
    rw [wire_in]
    have G8 := G5.trans g8
    by_cases z : wire ∈ tubes
    · rw [if_pos (decide_eq_true z)]
      refine ⟨l3, _, _, _, rfl, rfl, SqL.of (S8 _ _ f7), atI_nat (j := 1) rfl, (by show 3 ≤ sizeLine; decide), fun a ha => ?_⟩
      have nm := hws _ hwd
      exact k _ a ⟨m, wire, .name wd⟩ ((G8.new ha).mono (by omega)) (G8.free ha) upd_same ⟨⟨m0, m1, ow, .inl ⟨z, wd, rfl, nm.tok⟩⟩, fun _ => ⟨wd, rfl, nm⟩⟩ rfl
    · rw [if_neg (fun y => z (of_decide_eq_true y))]
      refine ⟨l3, _, _, _, rfl, rfl, SqL.of (S8 _ _ f7), atI_nat (j := 0) rfl, (by show 3 ≤ sizeLine; decide), fun a ha => ?_⟩
      exact k _ a ⟨m, wire, .order ord⟩ ((G8.new ha).mono (by omega)) (G8.free ha) upd_same ⟨⟨m0, m1, ow, .inr ⟨z, ord, rfl, o0, o1⟩⟩, fun y => absurd y z⟩ rfl
/-! ### a log -/
/-- minutes that never fall -/
def Rising : List Row → Prop := List.Pairwise fun r r2 => r.m ≤ r2.m
def spLog (K : PySem.W.Frag) : Sp := fun vs H Q _ => ∃ (p c : Addr) (n : Nat) (m : Int), vs = [.ref p, .int m] ∧ PenAt H p c n ∧ Cells K H p c ∧ n ≤ 80000 ∧ 1 ≤ m ∧ m ≤ 40 ∧
  ∀ H' t rs, Go K p c H (n + 1000) H' → H t = none → LogAt K H' t rs → rs.length ≤ 40 → (∀ r ∈ rs, r.Ok2) → Rising rs → Q (.ref t) H'
theorem ok_log (T : Txt w K mg) : FnOk P w K mg base CX0 3 T.a_log T.d_log ["_law_pen", "_law_most"] (spLog K) := by
  have G_draw := ok_draw (P := P) (base := base) T
  have G_word := ok_word (P := P) (base := base) T
  have G_row := ok_row (P := P) (base := base) T
  refine T.F_log.ok sc_log (fun vs H Q E h => ?_) (fun cdv A outer s H vs Q E hr h => ?_)
  · obtain ⟨p, c, n, m, rfl, _⟩ := h
    rfl
  · obtain ⟨p, c, n, m, rfl, hp, hc, hn, m1, m40, k⟩ := h
    have hr_word := hr
    have hr_row := hr
    have hr_draw := hr.mono (show 1 ≤ 2 by decide)
    refine ⟨_, (pss_cons (ps_set (i := 2) sc_log.nd rfl (by first | exact Or.inl rfl | exact Or.inr rfl) (pe_ix (kx_list K) (pe_lst (pa_cons pe_int (pa_cons (pv 1) (pa_cons (pe_op op_add pe_int (pe_call G_draw hr_draw (by rfl) T.g_draw T.F_draw.kp T.b_draw .nil pass0 (pa_cons (pv 0) (pa_cons (pv 1) pa_nil)))) (pa_cons (pe_call G_draw hr_draw (by rfl) T.g_draw T.F_draw.kp T.b_draw .nil pass0 (pa_cons (pv 0) (pa_cons (pe_op op_add (pv 1) pe_int) pa_nil))) pa_nil))))) (pe_call G_draw hr_draw (by rfl) T.g_draw T.F_draw.kp T.b_draw .nil pass0 (pa_cons (pv 0) (pa_cons pe_int pa_nil))) (fun _ _ => rfl)))
  (pss_cons (ps_setLc (i := 3) (own := [("_law_k", 6)]) rfl sc_log.nd rfl rfl (sw_true rfl rfl rfl (by decide +kernel)) (pi_range1 (by rfl) T.z_range (pa_cons pe_int pa_nil)) (blkOk_by (own := [("_law_k", 6)]) (N := ["_law_pen", "_law_most", "_law_many", "_law_words", "_law_at", "_law_made", "_law_k"]) (sc := defScope s_log) (by decide +kernel)) (fun _ _ _ _ _ => (pg_name (i := 6) sc_log.nd rfl (by first | exact Or.inl rfl | exact Or.inr rfl))) (fun _ _ _ _ _ => pts_nil) (fun _ _ _ _ _ => (pe_call G_word hr_word (by rfl) T.g_word T.F_word.kp T.b_word .nil pass0 (pa_cons (pv 0) pa_nil))))
  (pss_cons (ps_set (i := 4) sc_log.nd rfl (by first | exact Or.inl rfl | exact Or.inr rfl) (pe_ix (kx_list K) (pe_lst (pa_cons pe_int (pa_cons (pe_call G_draw hr_draw (by rfl) T.g_draw T.F_draw.kp T.b_draw .nil pass0 (pa_cons (pv 0) (pa_cons pe_int pa_nil))) (pa_cons (pe_op op_sub pe_int (pe_call G_draw hr_draw (by rfl) T.g_draw T.F_draw.kp T.b_draw .nil pass0 (pa_cons (pv 0) (pa_cons pe_int pa_nil)))) pa_nil)))) (pe_call G_draw hr_draw (by rfl) T.g_draw T.F_draw.kp T.b_draw .nil pass0 (pa_cons (pv 0) (pa_cons pe_int pa_nil))) (fun _ _ => rfl)))
  (pss_cons (ps_set (i := 5) sc_log.nd rfl (by first | exact Or.inl rfl | exact Or.inr rfl) (pe_lst pa_nil))
  (pss_cons (ps_for PassesOwn.never rfl (pi_range1 (by rfl) T.z_range (pa_cons (pv 2) pa_nil)) (pg_name (i := 6) sc_log.nd rfl (by first | exact Or.inl rfl | exact Or.inr rfl)) (pss_cons (ps_set (i := 4) sc_log.nd rfl (by first | exact Or.inl rfl | exact Or.inr rfl) (pe_callB (call_min2 rfl) (by rfl) T.z_min (by decide +kernel) (pa_cons pe_int (pa_cons (pe_op op_add (pv 4) (pe_ix (kx_list K) (pe_lst (pa_cons pe_int (pa_cons pe_int (pa_cons pe_int (pa_cons (pe_call G_draw hr_draw (by rfl) T.g_draw T.F_draw.kp T.b_draw .nil pass0 (pa_cons (pv 0) (pa_cons pe_int pa_nil))) (pa_cons (pe_call G_draw hr_draw (by rfl) T.g_draw T.F_draw.kp T.b_draw .nil pass0 (pa_cons (pv 0) (pa_cons pe_int pa_nil))) pa_nil)))))) (pe_call G_draw hr_draw (by rfl) T.g_draw T.F_draw.kp T.b_draw .nil pass0 (pa_cons (pv 0) (pa_cons pe_int pa_nil))) (fun _ _ => rfl))) pa_nil))))
  (pss_one (ps_expr (pe_bm PySem.F.plainAttrs_list PySem.F.slot_list_append PySem.F.type_list_append mt_append (pv 5) (pa_cons (pe_call G_row hr_row (by rfl) T.g_row T.F_row.kp T.b_row .nil pass0 (pa_cons (pv 0) (pa_cons (pv 4) (pa_cons (pv 3) pa_nil)))) pa_nil))))))
  (pss_one (ps_ret (pe_callTy (k_tupOf K) (by rfl) T.z_tuple (by decide +kernel) (pa_cons (pv 5) pa_nil))))))))), ?_⟩
    refine ⟨_, rfl, _, rfl, _, rfl, p, c, n, _, rfl, hp, hc, by omega, by omega, by omega, fun H1 r1 g1 a1 b1 => ?_⟩
    refine ⟨_, _, rfl, rfl, _, rfl, _, rfl, _, _, rfl, rfl, p, c, _, _, rfl, g1.pen, g1.cel, by omega, by omega, by omega, fun H2 r2 g2 a2 b2 => ⟨(by show 4 ≤ sizeLine; decide), fun l hl => ?_⟩⟩
    have G2 := g1.trans g2
    generalize hX : upd H2 l _ = H3
    obtain ⟨S3, f3⟩ := alloc hl hX
    have G3 := G2.same S3
    have nl := Ne.symm (G2.ne_new hl)
    clear hX
    refine ⟨_, rfl, p, c, _, _, rfl, G3.pen, G3.cel, by omega, by decide, by decide, fun H4 r4 g4 a4 b4 => ?_⟩
    obtain ⟨v, hv, ev⟩ := atI_lt (xs := [V.int 0, V.int m, V.int (1 + r1), V.int r2]) a4 (by show r4 < ((4 : Nat) : Int); exact b4)
    obtain ⟨many, rfl, mn0, mn1⟩ : ∃ q : Int, v = V.int q ∧ 0 ≤ q ∧ q ≤ 40 := by
      have q : v = V.int 0 ∨ v = V.int m ∨ v = V.int (1 + r1) ∨ v = V.int r2 := by simpa using hv
      rcases q with q | q | q | q <;> exact ⟨_, q, by omega, by omega⟩
    refine ⟨l, _, _, _, rfl, rfl, g4.but.seqL nl (SqL.of f3), ev, ?_⟩
    have G4 := G3.trans g4
    -- the words
    refine ⟨3, rfl, by decide, by decide, fun W hW => ?_⟩
    have hW0 := G4.free hW
    have nW : W ≠ p := Ne.symm (G4.ne_new hW)
    refine lc_it walk_range (fun i H' => Go K p c H (n + 3 + 11 * i) H' ∧ ∃ ws : List Str, H' W = some (.lst (ws.map V.str)) ∧ ws.length = i ∧ ∀ x ∈ ws, NameOk x)
      ⟨G4.new hW, [], upd_same, rfl, fun x hx => nomatch hx⟩ (fun _ _ _ _ => trivial) ?_ ?_
    · rintro i x _ Ha hi ⟨ga, ws, ea, lw, ow⟩ ⟨rfl, rfl⟩
      have hi3 : i < 3 := hi
      refine ⟨rfl, _, rfl, p, c, n + 3 + 11 * i, rfl, ga.pen, ga.cel, by omega, fun Hb t gb ot => ?_⟩
      have eb := gb.but W _ nW ea
      refine ⟨_, eb, by rw [List.length_map]; exact small1000 (by omega), ((ga.trans gb).own hW0 nW hc).mono (by omega), ws ++ [t], by rw [upd_same, List.map_append]; rfl, by rw [List.length_append, lw]; rfl, fun x hx => ?_⟩
      rcases List.mem_append.mp hx with hx | hx
      · exact ow x hx
      · have : x = t := by simpa using hx
        subst this
        exact ot
    rintro H5 ⟨G5, ws, e5, lw, ow⟩
    have hws : ws ≠ [] := fun z => by
      rw [z] at lw
      cases lw
    have lw3 : ws.length = 3 := lw
    have G5' : Go K p c H (n + 36) H5 := G5.mono (Nat.le_of_eq rfl)
    -- the first minute
    refine ⟨_, rfl, p, c, _, _, rfl, G5'.pen, G5'.cel, by omega, by decide, by decide, fun H6 r6 g6 a6 b6 => ?_⟩
    refine ⟨_, rfl, p, c, _, _, rfl, g6.pen, g6.cel, by omega, by decide, by decide, fun H7 r7 g7 a7 b7 => ?_⟩
    refine ⟨_, _, rfl, rfl, (by show 3 ≤ sizeLine; decide), fun l3 hl3 => ?_⟩
    have G7 := G5'.trans (g6.trans g7)
    generalize hX : upd H7 l3 _ = H8
    obtain ⟨S8, f8⟩ := alloc hl3 hX
    have G8 := G7.same S8
    have nl3 := Ne.symm (G7.ne_new hl3)
    clear hX
    refine ⟨_, rfl, p, c, _, _, rfl, G8.pen, G8.cel, by omega, by decide, by decide, fun H9 r9 g9 a9 b9 => ?_⟩
    obtain ⟨v, hv, ev⟩ := atI_lt (xs := [V.int 0, V.int r6, V.int (99999 - r7)]) a9 (by show r9 < ((3 : Nat) : Int); exact b9)
    obtain ⟨time, rfl, tm0, tm1⟩ : ∃ q : Int, v = V.int q ∧ 0 ≤ q ∧ q ≤ 99999 := by
      have q : v = V.int 0 ∨ v = V.int r6 ∨ v = V.int (99999 - r7) := by simpa using hv
      rcases q with q | q | q <;> exact ⟨_, q, by omega, by omega⟩
    refine ⟨l3, _, _, _, rfl, rfl, g9.but.seqL nl3 (SqL.of f8), ev, ?_⟩
    have G9 := G8.trans g9
    have w9 : H9 W = some (.lst (ws.map V.str)) := g9.but _ _ nW (S8 _ _ (g7.but _ _ nW (g6.but _ _ nW e5)))
    -- the rows
    refine ⟨(by show 0 ≤ sizeLine; decide), fun R hR => ?_⟩
    have nR := Ne.symm (G9.ne_new hR)
    generalize hX : upd H9 R _ = H10
    obtain ⟨S10, f10⟩ := alloc hR hX
    clear hX
    refine ⟨_, rfl, _, rfl, by omega, by omega, ?_⟩
    refine for_it walk_range (fun i σ H' => ∃ (tm : Int) (x6 : Option V) (as : List Addr) (rs : List Row), σ = [some (.ref p), some (.int m), some (.int many), some (.ref W), some (.int tm), some (.ref R), x6] ∧
        Go K p c H9 (n + 39 + 7 * i) H' ∧ H' W = some (.lst (ws.map V.str)) ∧ H' R = some (.lst (as.map V.ref)) ∧ RowsAt K H' as rs ∧ rs.length = i ∧ (∀ r ∈ rs, r.Ok2) ∧ Rising rs ∧ (∀ r ∈ rs, r.m ≤ tm) ∧ 0 ≤ tm ∧ tm ≤ 99999)
      ⟨time, none, [], [], rfl, (G9.self.same S10).mono (by omega), S10 _ _ w9, f10, .nil, rfl, (fun r hr => nomatch hr), .nil, (fun r hr => nomatch hr), tm0, tm1⟩ (fun _ _ _ _ _ => trivial) ?_ ?_
    · rintro i x σ _ Ha hi ⟨tm, x6, as, rs, rfl, ga, wa, ra, rowsa, lrs, oks, ris, low, h40, h41⟩ ⟨rfl, rfl⟩
      have ei : i < 40 := by omega
      refine ⟨_, rfl, _, rfl, p, c, _, _, rfl, ga.pen, ga.cel, by omega, by decide, by decide, fun Hb rb gb ab bb => ?_⟩
      refine ⟨_, rfl, p, c, _, _, rfl, gb.pen, gb.cel, by omega, by decide, by decide, fun Hc rc gc ac bc => ⟨(by show 5 ≤ sizeLine; decide), fun l4 hl4 => ?_⟩⟩
      have nl4 := Ne.symm ((gb.trans gc).ne_new hl4)
      generalize hX : upd Hc l4 _ = Hd
      obtain ⟨Sd, fd⟩ := alloc hl4 hX
      have gd := (gb.trans gc).same Sd
      clear hX
      refine ⟨_, rfl, p, c, _, _, rfl, gd.pen, gd.cel, by omega, by decide, by decide, fun He re ge ae be => ?_⟩
      obtain ⟨v4, hv4, ev4⟩ := atI_lt (xs := [V.int 0, V.int 0, V.int 1, V.int rb, V.int rc]) ae (by show re < ((5 : Nat) : Int); exact be)
      obtain ⟨more, rfl, mo0⟩ : ∃ more : Int, v4 = .int more ∧ 0 ≤ more := by
        have z : v4 = V.int 0 ∨ v4 = V.int 1 ∨ v4 = V.int rb ∨ v4 = V.int rc := by simpa using hv4
        rcases z with z | z | z | z <;> exact ⟨_, z, by omega⟩
      refine ⟨l4, _, _, _, rfl, rfl, ge.but.seqL nl4 (SqL.of fd), ev4, _, _, rfl, rfl, _, _, rfl, ?_⟩
      have gE := gd.trans ge
      obtain ⟨tm2, etm2, tm20, tm21, tmle⟩ : ∃ tm2 : Int, (if tm + more < 99999 then tm + more else 99999) = tm2 ∧ 0 ≤ tm2 ∧ tm2 ≤ 99999 ∧ tm ≤ tm2 := ⟨_, rfl, by split <;> omega, by split <;> omega, by split <;> omega⟩
      rw [etm2]
      have wE := gE.but _ _ nW wa
      have rE := gE.but _ _ nR ra
      have rowsE := rowsa.go ga.pen gE.but
      have GE := ga.trans gE
      refine ⟨_, rfl, .inl ⟨rfl, _, SqL.of rE⟩, _, rfl, _, rfl, _, rfl, p, c, W, _, tm2, ws, rfl, GE.pen, GE.cel, by omega, tm20, tm21, SqL.of wE, nW, hws, by omega, ow, fun Hf a r gf haf faf okf erm => ?_⟩
      have wF := gf.but _ _ nW wE
      have rF := gf.but _ _ nR rE
      have rowsF := rowsE.go GE.pen gf.but
      refine ⟨R, _, _, rfl, rfl, rF, (by rw [List.length_map, rowsF.length, lrs]; exact small1000 (by omega)), ?_⟩
      have b3 : But R Hf (upd Hf R (.lst (as.map V.ref ++ [V.ref a]))) := But.put
      refine ⟨tm2, _, as ++ [a], rs ++ [r], rfl, ((GE.trans gf).own hR nR G9.cel).mono (by omega), b3 _ _ (ne_of_none w9 hR) wF, by rw [upd_same, List.map_append]; rfl, (rowsF.snoc (SqT.of faf)).lst rF b3, by rw [List.length_append, lrs]; rfl, ?_, ?_, ?_, tm20, tm21⟩
      · intro q hq
        rcases List.mem_append.mp hq with z | z
        · exact oks q z
        · have : q = r := by simpa using z
          subst this
          exact okf
      · refine List.pairwise_append.mpr ⟨ris, List.pairwise_singleton .., fun q hq y hy => ?_⟩
        have : y = r := by simpa using hy
        subst this
        have := low q hq
        omega
      · intro q hq
        rcases List.mem_append.mp hq with z | z
        · have := low q z
          omega
        · have : q = r := by simpa using z
          subst this
          omega
    · rintro σ Ha ⟨tm, x6, as, rs, rfl, ga, wa, ra, rowsa, lrs, oks, ris, low, h40, h41⟩
      refine ⟨_, rfl, R, _, rfl, .inl ⟨SqL.of ra, fun l hl => ?_⟩⟩
      have S4 : Same Ha (upd Ha l (.tup (as.map V.ref))) := same_new (Same.refl _) hl
      have GA := G9.trans ga
      exact k _ l rs ((GA.same S4).mono (by omega)) (GA.free hl) ⟨as, SqT.of upd_same, rowsa.same S4⟩ (by omega) oks ris
/-! ### the program: minutes, orders, names, rows -/
def spWhole (K : PySem.W.Frag) : Sp := fun vs H Q _ => ∃ i : Int, vs = [.int i] ∧ Q (.bl true) H
theorem ok_is_whole (T : Txt w K mg) : FnOk P w K mg base CX0 1 T.a_is_whole T.d_is_whole ["thing"] (spWhole K) := by
  refine T.F_is_whole.ok sc_is_whole (fun vs H Q E h => ?_) (fun cdv A outer s H vs Q E hr h => ?_)
  · obtain ⟨i, rfl, _⟩ := h
    rfl
  · obtain ⟨i, rfl, k⟩ := h
    refine ⟨_, (pss_one (ps_ret (pe_and (pe_callB (k_isi K) (by rfl) T.z_isinstance (by decide +kernel) (pa_cons (pv 0) (pa_cons (pe_bltn (v := .ty "int") (by rfl) T.z_int (by decide +kernel) rfl) pa_nil))) (pe_one (pe_not (pe_callB (k_isi K) (by rfl) T.z_isinstance (by decide +kernel) (pa_cons (pv 0) (pa_cons (pe_bltn (v := .ty "bool") (by rfl) T.z_bool (by decide +kernel) rfl) pa_nil)))))))), ?_⟩
    refine ⟨_, rfl, _, _, _, _, true, rfl, ClsV.ty "int", TyX.base (TyOf.int i), kit_ty (by decide +kernel), _, rfl, ?_⟩
    exact ⟨_, rfl, _, _, _, _, false, rfl, ClsV.ty "bool", TyX.base (TyOf.int i), kit_ty (by decide +kernel), _, rfl, k⟩
def spIntB (f : Int → Bool) : Sp := fun vs H Q _ => ∃ i : Int, vs = [.int i] ∧ Q (.bl (f i)) H
theorem ok_is_minute (T : Txt w K mg) : FnOk P w K mg base CX0 2 T.a_is_minute T.d_is_minute ["thing"] (spIntB fun i => decide (0 ≤ i) && decide (i ≤ 99999)) := by
  have G_is_whole := ok_is_whole (P := P) (base := base) T
  refine T.F_is_minute.ok sc_is_minute (fun vs H Q E h => ?_) (fun cdv A outer s H vs Q E hr h => ?_)
  · obtain ⟨i, rfl, _⟩ := h
    rfl
  · obtain ⟨i, rfl, k⟩ := h
    have hr_is_whole := hr
    refine ⟨_, (pss_one (ps_ret (pe_and (pe_call G_is_whole hr_is_whole (by rfl) T.g_is_whole T.F_is_whole.kp T.b_is_whole .nil pass0 (pa_cons (pv 0) pa_nil)) (pe_one (pe_chain op_le op_le pe_int (pv 0) (pe_glob (v := .int (99999)) (by rfl) T.c_LAST_MINUTE ⟨_, rfl⟩)))))), ?_⟩
    refine ⟨_, rfl, i, rfl, _, rfl, ?_⟩
    show if true = true then _ else _
    refine ⟨_, rfl, _, _, rfl, rfl, _, rfl, ?_⟩
    have k : Q (V.bl (decide (0 ≤ i) && decide (i ≤ 99999))) H := k
    cases z : decide ((0 : Int) ≤ i) with
    | true =>
      rw [z, Bool.true_and] at k
      exact ⟨_, _, rfl, rfl, k⟩
    | false =>
      rw [z, Bool.false_and] at k
      exact k
theorem ok_is_order (T : Txt w K mg) : FnOk P w K mg base CX0 2 T.a_is_order T.d_is_order ["thing"] (spIntB fun i => decide (-4 ≤ i) && decide (i ≤ 4)) := by
  have G_is_whole := ok_is_whole (P := P) (base := base) T
  refine T.F_is_order.ok sc_is_order (fun vs H Q E h => ?_) (fun cdv A outer s H vs Q E hr h => ?_)
  · obtain ⟨i, rfl, _⟩ := h
    rfl
  · obtain ⟨i, rfl, k⟩ := h
    have hr_is_whole := hr
    refine ⟨_, (pss_one (ps_ret (pe_and (pe_call G_is_whole hr_is_whole (by rfl) T.g_is_whole T.F_is_whole.kp T.b_is_whole .nil pass0 (pa_cons (pv 0) pa_nil)) (pe_one (pe_chain op_le op_le (pe_glob (v := .int (-4)) (by rfl) T.c_FULL_ASTERN ⟨_, rfl⟩) (pv 0) (pe_glob (v := .int (4)) (by rfl) T.c_FULL_AHEAD ⟨_, rfl⟩)))))), ?_⟩
    refine ⟨_, rfl, i, rfl, _, rfl, ?_⟩
    show if true = true then _ else _
    refine ⟨_, rfl, _, _, rfl, rfl, _, rfl, ?_⟩
    have k : Q (V.bl (decide (-4 ≤ i) && decide (i ≤ 4))) H := k
    cases z : decide ((-4 : Int) ≤ i) with
    | true =>
      rw [z, Bool.true_and] at k
      exact ⟨_, _, rfl, rfl, k⟩
    | false =>
      rw [z, Bool.false_and] at k
      exact k
theorem code_lt (a b : Nat) : decide (([a] : List Nat) < [b]) = decide (a < b) := by
  rw [Bool.eq_iff_iff, decide_eq_true_eq, decide_eq_true_eq]
  constructor
  · intro h
    cases h with
    | rel h => exact h
    | cons h => cases h
  · intro h
    exact .rel h
def spName (K : PySem.W.Frag) : Sp := fun vs H Q _ => ∃ t : Str, vs = [.str t] ∧ NameOk t ∧ ∀ H', Same H H' → Q (.bl true) H'
theorem ok_is_name (T : Txt w K mg) : FnOk P w K mg base CX0 1 T.a_is_name T.d_is_name ["thing"] (spName K) := by
  refine T.F_is_name.ok sc_is_name (fun vs H Q E h => ?_) (fun cdv A outer s H vs Q E hr h => ?_)
  · obtain ⟨t, rfl, _⟩ := h
    rfl
  · obtain ⟨t, rfl, ⟨n1, n8, nc⟩, k⟩ := h
    refine ⟨_, (pss_cons (ps_if (PW.pt (pw_or (pt_not (pt_val (pe_callB (k_isi K) (by rfl) T.z_isinstance (by decide +kernel) (pa_cons (pv 0) (pa_cons (pe_bltn (v := .ty "str") (by rfl) T.z_str (by decide +kernel) rfl) pa_nil))))) (pw_or1 (pt_not (pt_chain op_le op_le pe_int (pe_callB call_len_str (by rfl) T.z_len (by decide +kernel) (pa_cons (pv 0) pa_nil)) (pe_glob (v := .int (8)) (by rfl) T.c_LONGEST_NAME ⟨_, rfl⟩)))))) (pss_one (ps_ret pe_bl)) pss_nil)
  (pss_one (ps_ret (pe_callB (k_all K rfl) (by rfl) T.z_all (by decide +kernel) (pa_cons (pe_lc (own := [("sign", 1)]) rfl sc_is_name.nd (pi_str (pv 0)) (blkOk_by (own := [("sign", 1)]) (N := ["thing", "sign"]) (sc := defScope s_is_name) (by decide +kernel)) (fun _ _ _ _ _ => (pg_name (i := 1) sc_is_name.nd rfl (by first | exact Or.inl rfl | exact Or.inr rfl))) (fun _ _ _ _ _ => pts_nil) (fun _ _ _ _ _ => (pe_chain op_le_str op_le_str pe_str (pv 1) pe_str))) pa_nil))))), ?_⟩
    refine ⟨_, rfl, _, _, _, _, true, rfl, ClsV.ty "str", TyX.base (TyOf.str t), kit_ty (by decide +kernel), _, rfl, ?_⟩
    show if false = true then _ else _
    refine ⟨_, rfl, _, rfl, Nat.le_trans n8 (by decide), _, _, rfl, rfl, _, rfl, ?_⟩
    rw [decide_eq_true (show (1 : Int) ≤ (t.length : Int) by omega)]
    show if true = true then _ else _
    refine ⟨_, _, rfl, rfl, _, rfl, ?_⟩
    rw [decide_eq_true (show (t.length : Int) ≤ 8 by omega)]
    show if false = true then _ else _
    refine ⟨_, rfl, t, rfl, fun D hD => ?_⟩
    refine lc_it walk_str (fun i H' => Same H H' ∧ H' D = some (.lst ((List.replicate i true).map V.bl))) ⟨same_new (Same.refl _) hD, upd_same⟩ (fun _ _ _ _ => trivial) ?_ ?_
    · rintro i x _ H2 hi ⟨s2, e2⟩ ⟨rfl, c, hc, rfl⟩
      have hm : c ∈ t.cps.toList := by
        obtain ⟨h1, h2⟩ := Array.getElem?_eq_some_iff.mp hc
        rw [← h2]
        exact Array.getElem_mem_toList h1
      obtain ⟨c1, c2⟩ := nc c hm
      refine ⟨rfl, _, rfl, _, _, rfl, rfl, _, rfl, ?_⟩
      rw [show decide ((⟨#[c]⟩ : Str).cps.toList < (Str.ofString "a").cps.toList) = false from (code_lt c 97).trans (decide_eq_false (by omega))]
      show if true = true then _ else _
      refine ⟨_, _, rfl, rfl, _, e2, ?_, same_own s2 hD, ?_⟩
      · rw [List.length_map, List.length_replicate]
        have e9 : t.cps.size = t.length := rfl
        exact small1000 (by omega)
      · rw [upd_same, show decide ((Str.ofString "z").cps.toList < (⟨#[c]⟩ : Str).cps.toList) = false from (code_lt 122 c).trans (decide_eq_false (by omega)), List.replicate_succ', List.map_append]
        rfl
    · rintro H2 ⟨s2, e2⟩
      refine ⟨D, _, rfl, SqL.of e2, ?_⟩
      have : (List.replicate t.cps.size true).all id = true := by
        rw [List.all_eq_true]
        intro x hx
        exact (List.mem_replicate.mp hx).2
      rw [this]
      exact k H2 s2
/-- a row's parts are read at a -/
def RowE (K : PySem.W.Frag) (H : Hp) (a : Addr) (r : Row) : Prop := SqE K H a [.int r.m, .str r.l, r.w.v]
def spIsLine (K : PySem.W.Frag) : Sp := fun vs H Q _ => ∃ l : Str, vs = [.str l] ∧ l ∈ lines6 ∧ Q (.bl true) H
theorem ok_is_line (T : Txt w K mg) : FnOk P w K mg base CX0 1 T.a_is_line T.d_is_line ["thing"] (spIsLine K) := by
  refine T.F_is_line.ok sc_is_line (fun vs H Q E h => ?_) (fun cdv A outer s H vs Q E hr h => ?_)
  · obtain ⟨l, rfl, _⟩ := h
    rfl
  · obtain ⟨l, rfl, ln, k⟩ := h
    refine ⟨_, (pss_one (ps_ret (pe_and (pe_callB (k_isi K) (by rfl) T.z_isinstance (by decide +kernel) (pa_cons (pv 0) (pa_cons (pe_bltn (v := .ty "str") (by rfl) T.z_str (by decide +kernel) rfl) pa_nil))) (pe_one (pe_cmpR (op_in_kd T.kD_SENDERS) (pv 0) (pe_glob (v := .ref T.D_SENDERS) (by rfl) T.c_SENDERS rfl) (by rfl)))))), ?_⟩
    refine ⟨_, rfl, _, _, _, _, true, rfl, ClsV.ty "str", TyX.base (TyOf.str _), kit_ty (by decide +kernel), _, rfl, ?_⟩
    rw [if_pos rfl]
    obtain ⟨u2, hu2, _⟩ : ∃ u, PySem.W.nsIn K T.D_SENDERS l = some (some u) ∧ True := by
      have l6 : l = "port" ∨ l = "star" ∨ l = "down" ∨ l = "aport" ∨ l = "astar" ∨ l = "up" := by simpa [lines6] using ln
      rcases l6 with q | q | q | q | q | q
      · obtain ⟨u, h, _⟩ := T.ki_SENDERS ("port", .str "bridge") (by simp); exact ⟨u, q ▸ h, trivial⟩
      · obtain ⟨u, h, _⟩ := T.ki_SENDERS ("star", .str "bridge") (by simp); exact ⟨u, q ▸ h, trivial⟩
      · obtain ⟨u, h, _⟩ := T.ki_SENDERS ("down", .str "bridge") (by simp); exact ⟨u, q ▸ h, trivial⟩
      · obtain ⟨u, h, _⟩ := T.ki_SENDERS ("aport", .str "room") (by simp); exact ⟨u, q ▸ h, trivial⟩
      · obtain ⟨u, h, _⟩ := T.ki_SENDERS ("astar", .str "room") (by simp); exact ⟨u, q ▸ h, trivial⟩
      · obtain ⟨u, h, _⟩ := T.ki_SENDERS ("up", .str "room") (by simp); exact ⟨u, q ▸ h, trivial⟩
    exact ⟨_, rfl, l, some u2, rfl, rfl, hu2, k⟩
def spMakes (K : PySem.W.Frag) : Sp := fun vs H Q _ => ∃ (a : Addr) (r : Row), vs = [.ref a] ∧ RowE K H a r ∧ r.Ok2 ∧ ∀ H', Same H H' → Q (.bl true) H'
theorem ok_makes_row (T : Txt w K mg) : FnOk P w K mg base CX0 3 T.a_makes_row T.d_makes_row ["thing"] (spMakes K) := by
  have G_is_minute := ok_is_minute (P := P) (base := base) T
  have G_is_order := ok_is_order (P := P) (base := base) T
  have G_is_name := ok_is_name (P := P) (base := base) T
  have G_is_line := ok_is_line (P := P) (base := base) T
  refine T.F_makes_row.ok sc_makes_row (fun vs H Q E h => ?_) (fun cdv A outer s H vs Q E hr h => ?_)
  · obtain ⟨a, r, rfl, _⟩ := h
    rfl
  · obtain ⟨a, r, rfl, hrow, ok, k⟩ := h
    have hr_is_minute := hr
    have hr_is_order := hr
    have hr_is_name := hr.mono (show 1 ≤ 2 by decide)
    have hr_is_line := hr_is_name
    refine ⟨_, (pss_cons (ps_if (PW.pt (pw_or (pt_not (pt_val (pe_callB (k_isiT K) (by rfl) T.z_isinstance (by decide +kernel) (pa_cons (pv 0) (pa_cons (pe_tup (pa_cons (pe_bltn (v := .ty "list") (by rfl) T.z_list (by decide +kernel) rfl) (pa_cons (pe_bltn (v := .ty "tuple") (by rfl) T.z_tuple (by decide +kernel) rfl) pa_nil))) pa_nil))))) (pw_or1 (pt_cmpR op_ne (pe_callB (k_len K) (by rfl) T.z_len (by decide +kernel) (pa_cons (pv 0) pa_nil)) pe_int (nomark _))))) (pss_one (ps_ret pe_bl)) pss_nil)
  (pss_cons (ps_asg (pv 0) (k_pgE (n := 3) K rfl (pgs_cons (pg_name (i := 1) sc_makes_row.nd rfl (by first | exact Or.inl rfl | exact Or.inr rfl)) (pgs_cons (pg_name (i := 2) sc_makes_row.nd rfl (by first | exact Or.inl rfl | exact Or.inr rfl)) (pgs_cons (pg_name (i := 3) sc_makes_row.nd rfl (by first | exact Or.inl rfl | exact Or.inr rfl)) pgs_nil)))))
  (pss_cons (ps_if (pt_not (pt_val (pe_call G_is_line hr_is_line (by rfl) T.g_is_line T.F_is_line.kp T.b_is_line .nil pass0 (pa_cons (pv 2) pa_nil)))) (pss_one (ps_ret pe_bl)) pss_nil)
  (pss_cons (ps_set (i := 4) sc_makes_row.nd rfl (by first | exact Or.inl rfl | exact Or.inr rfl) (pe_ifExp (pt_cmpR (k_in K) (pv 2) (pe_glob (v := .ref T.D_TUBES) (by rfl) T.c_TUBES rfl) (by rfl)) (pe_call G_is_name hr_is_name (by rfl) T.g_is_name T.F_is_name.kp T.b_is_name .nil pass0 (pa_cons (pv 3) pa_nil)) (pe_call G_is_order hr_is_order (by rfl) T.g_is_order T.F_is_order.kp T.b_is_order .nil pass0 (pa_cons (pv 3) pa_nil))))
  (pss_one (ps_ret (pe_and (pv 4) (pe_one (pe_call G_is_minute hr_is_minute (by rfl) T.g_is_minute T.F_is_minute.kp T.b_is_minute .nil pass0 (pa_cons (pv 1) pa_nil)))))))))), ?_⟩
    refine ⟨_, rfl, (by show 2 ≤ sizeLine; decide), fun u hu => ?_⟩
    generalize hX : upd H u _ = H1
    obtain ⟨S1, f1⟩ := alloc hu hX
    clear hX
    have row1 := hrow.same S1
    obtain ⟨ty, hty, hk⟩ : ∃ ty : Value, TyX K H1 (.ref a) ty ∧ PySem.W.kitAny K ty [.type "list", .type "tuple"] = some true := by
      rcases row1 with q | q
      · exact ⟨_, seqL_ty q, rfl⟩
      · exact ⟨_, seqT_ty q, rfl⟩
    refine ⟨_, u, [.ty "list", .ty "tuple"], ty, [.type "list", .type "tuple"], true, rfl, f1, .cons (ClsV.ty "list") (.cons (ClsV.ty "tuple") .nil), hty, hk, _, rfl, ?_⟩
    show if false = true then _ else _
    refine ⟨_, rfl, a, _, rfl, row1, rfl, _, rfl, ?_⟩
    show if false = true then _ else _
    refine ⟨_, rfl, a, _, rfl, row1, rfl, _, _, rfl, _, _, rfl, _, _, rfl, rfl, ?_⟩
    refine ⟨_, rfl, r.l, rfl, ok.ok.ln, _, rfl, ?_⟩
    show if false = true then _ else _
    refine ⟨_, rfl, T.D_TUBES, _, rfl, .inr (T.kt_TUBES _), rfl, rfl, _, rfl, ?_⟩
    have inT := wire_in r.l
    show if inV (V.str r.l) [V.str (Str.ofString "down"), V.str (Str.ofString "up")] = true then _ else _
    rw [inT]
    have minute : ∀ H', Same H1 H' → Q (.bl (decide (0 ≤ r.m) && decide (r.m ≤ 99999))) H' := fun H' q => by
      rw [decide_eq_true ok.ok.m0, decide_eq_true ok.ok.m1]
      exact k H' (S1.trans q)
    refine ite2 (fun z => ?_) (fun z => ?_)
    · obtain ⟨t, et, nt⟩ := ok.nm (of_decide_eq_true z)
      rw [et]
      refine ⟨_, rfl, t, rfl, nt, fun H2 S2 => ?_⟩
      refine ⟨_, rfl, _, rfl, ?_⟩
      show if true = true then _ else _
      exact ⟨_, rfl, r.m, rfl, minute H2 S2⟩
    · rcases ok.ok.wh with ⟨y, _⟩ | ⟨_, i, ei, i0, i1⟩
      · exact absurd (decide_eq_true y) z
      · rw [ei]
        refine ⟨_, rfl, i, rfl, ?_⟩
        have e2 : (decide (-4 ≤ i) && decide (i ≤ 4)) = true := by
          rw [decide_eq_true i0, decide_eq_true i1]
          rfl
        refine ⟨_, rfl, _, rfl, ?_⟩
        show if (decide (-4 ≤ i) && decide (i ≤ 4)) = true then _ else _
        rw [if_pos e2]
        exact ⟨_, rfl, r.m, rfl, minute _ (Same.refl _)⟩
/-! ### the program: rows and logs -/
def spIsRow (K : PySem.W.Frag) : Sp := fun vs H Q _ => ∃ (a : Addr) (r : Row), vs = [.ref a] ∧ RowAt K H a r ∧ r.Ok2 ∧ ∀ H', Same H H' → Q (.bl true) H'
theorem ok_is_row (T : Txt w K mg) : FnOk P w K mg base CX0 4 T.a_is_row T.d_is_row ["thing"] (spIsRow K) := by
  have G_makes_row := ok_makes_row (P := P) (base := base) T
  refine T.F_is_row.ok sc_is_row (fun vs H Q E h => ?_) (fun cdv A outer s H vs Q E hr h => ?_)
  · obtain ⟨a, r, rfl, _⟩ := h
    rfl
  · obtain ⟨a, r, rfl, hrow, ok, k⟩ := h
    have hr_makes_row := hr
    refine ⟨_, (pss_one (ps_ret (pe_and (pe_callB (k_isi K) (by rfl) T.z_isinstance (by decide +kernel) (pa_cons (pv 0) (pa_cons (pe_bltn (v := .ty "tuple") (by rfl) T.z_tuple (by decide +kernel) rfl) pa_nil))) (pe_one (pe_call G_makes_row hr_makes_row (by rfl) T.g_makes_row T.F_makes_row.kp T.b_makes_row .nil pass0 (pa_cons (pv 0) pa_nil)))))), ?_⟩
    refine ⟨_, rfl, _, _, _, _, true, rfl, ClsV.ty "tuple", seqT_ty hrow, kit_ty (by decide +kernel), _, rfl, ?_⟩
    exact ⟨_, rfl, a, r, rfl, .inr hrow, ok, k⟩
def spRowOf (K : PySem.W.Frag) : Sp := fun vs H Q _ => ∃ (a : Addr) (r : Row), vs = [.ref a] ∧ RowE K H a r ∧ r.Ok2 ∧ ∀ H' b, Same H H' → RowAt K H' b r → Q (.ref b) H'
theorem ok_row_of (T : Txt w K mg) : FnOk P w K mg base CX0 4 T.a_row_of T.d_row_of ["thing"] (spRowOf K) := by
  have G_makes_row := ok_makes_row (P := P) (base := base) T
  refine T.F_row_of.ok sc_row_of (fun vs H Q E h => ?_) (fun cdv A outer s H vs Q E hr h => ?_)
  · obtain ⟨a, r, rfl, _⟩ := h
    rfl
  · obtain ⟨a, r, rfl, hrow, ok, k⟩ := h
    have hr_makes_row := hr
    refine ⟨_, (pss_cons (ps_if (pt_not (pt_val (pe_call G_makes_row hr_makes_row (by rfl) T.g_makes_row T.F_makes_row.kp T.b_makes_row .nil pass0 (pa_cons (pv 0) pa_nil)))) (pss_one ps_never) pss_nil)
  (pss_one (ps_ret (pe_callTy (k_tupOf K) (by rfl) T.z_tuple (by decide +kernel) (pa_cons (pv 0) pa_nil))))), ?_⟩
    refine ⟨_, rfl, a, r, rfl, hrow, ok, fun H1 S1 => ?_⟩
    refine ⟨_, rfl, ?_⟩
    show if false = true then _ else _
    have row1 := SqE.same hrow S1
    refine ⟨_, rfl, a, [.int r.m, .str r.l, r.w.v], rfl, ?_⟩
    rcases row1 with q | q
    · exact .inl ⟨q, fun l hl => k _ l (same_new S1 hl) (SqT.of upd_same)⟩
    · exact .inr ⟨q, k _ a S1 q⟩
/-! ### is it a log? -/
/-- rows, lists or tuples, stand at t -/
structure BookAt (K : PySem.W.Frag) (H : Hp) (t : Addr) (as : List Addr) (rs : List Row) : Prop where
  sq : SqE K H t (as.map V.ref)
  ln : as.length = rs.length
  at_ : ∀ (i : Nat) (a : Addr) (r : Row), as[i]? = some a → rs[i]? = some r → RowE K H a r
theorem BookAt.same {K : PySem.W.Frag} {H H1 : Hp} {t : Addr} {as : List Addr} {rs : List Row} (h : BookAt K H t as rs) (s : Same H H1) : BookAt K H1 t as rs :=
  ⟨h.sq.same s, h.ln, fun i a r x y => SqE.same (h.at_ i a r x y) s⟩
theorem LogAt.book {K : PySem.W.Frag} {H : Hp} {t : Addr} {as : List Addr} {rs : List Row} (h1 : SqT K H t (as.map V.ref)) (h2 : RowsAt K H as rs) : BookAt K H t as rs :=
  ⟨.inr h1, h2.length, fun i a r x y => by
    obtain ⟨r2, e, q⟩ := h2.get' x
    rw [y] at e
    cases e
    exact .inr q⟩
def Fit (rs : List Row) : Prop := Rising rs ∧ rs.length ≤ 40
theorem rising_snoc {rs : List Row} {r : Row} (h : Rising rs) (l : ∀ q ∈ rs, q.m ≤ r.m) : Rising (rs ++ [r]) := by
  refine List.pairwise_append.mpr ⟨h, List.pairwise_singleton .., fun q hq y hy => ?_⟩
  have : y = r := by simpa using hy
  subst this
  exact l q hq
theorem take_snoc {α : Type} {l : List α} {i : Nat} {x : α} (h : l[i]? = some x) : l.take (i + 1) = l.take i ++ [x] := by
  rw [List.take_succ, h]
  rfl
/-- the number of the first wrong row -/
def spWrong (K : PySem.W.Frag) : Sp := fun vs H Q _ => ∃ (t : Addr) (as : List Addr) (rs : List Row), vs = [.ref t] ∧ BookAt K H t as rs ∧ (∀ r ∈ rs, r.Ok2) ∧
  ∀ H' v, Same H H' → ((v = V.non ∧ Fit rs) ∨ (∃ i : Int, v = .int i) ∧ ¬ Fit rs) → Q v H'
theorem ok_wrong_at (T : Txt w K mg) : FnOk P w K mg base CX0 4 T.a_wrong_at T.d_wrong_at ["rows"] (spWrong K) := by
  have G_makes_row := ok_makes_row (P := P) (base := base) T
  refine T.F_wrong_at.ok sc_wrong_at (fun vs H Q E h => ?_) (fun cdv A outer s H vs Q E hr h => ?_)
  · obtain ⟨t, as, rs, rfl, _⟩ := h
    rfl
  · obtain ⟨t, as, rs, rfl, hB, oks, k⟩ := h
    have hr_makes_row := hr
    refine ⟨_, (pss_cons (ps_set (i := 1) sc_wrong_at.nd rfl (by first | exact Or.inl rfl | exact Or.inr rfl) pe_int)
  (pss_cons (ps_for PassesOwn.never rfl (pi_enumA (by rfl) T.z_enumerate (pa_cons (pv 0) pa_nil)) (k_pgT (n := 2) K rfl (pgs_cons (pg_name (i := 2) sc_wrong_at.nd rfl (by first | exact Or.inl rfl | exact Or.inr rfl)) (pgs_cons (pg_name (i := 3) sc_wrong_at.nd rfl (by first | exact Or.inl rfl | exact Or.inr rfl)) pgs_nil))) (pss_cons (ps_if (PW.pt (pw_or (pt_cmpR op_ge (pv 2) (pe_glob (v := .int (40)) (by rfl) T.c_MOST_ROWS ⟨_, rfl⟩) (nomark _)) (pw_or (pt_not (pt_val (pe_call G_makes_row hr_makes_row (by rfl) T.g_makes_row T.F_makes_row.kp T.b_makes_row .nil pass0 (pa_cons (pv 3) pa_nil)))) (pw_or1 (pt_cmpR op_lt (pe_ix (kx_E K) (pv 3) pe_int (fun _ _ => rfl)) (pv 1) (nomark _)))))) (pss_one (ps_ret (pv 2))) pss_nil)
  (pss_one (ps_set (i := 1) sc_wrong_at.nd rfl (by first | exact Or.inl rfl | exact Or.inr rfl) (pe_ix (kx_E K) (pv 3) pe_int (fun _ _ => rfl))))))
  (pss_one (ps_ret pe_non)))), ?_⟩
    refine ⟨_, rfl, t, (as.map V.ref), rfl, ?_⟩
    have start : ∃ (lat : Int) (x2 x3 : Option V), [some (V.ref t), some (V.int 0), none, none] = [some (V.ref t), some (V.int lat), x2, x3] ∧ Same H H ∧ Rising (rs.take 0) ∧ (∀ r ∈ rs.take 0, r.m ≤ lat) ∧ (lat = 0 ∨ ∃ r j, j < 0 ∧ rs[j]? = some r ∧ r.m = lat) ∧ 0 ≤ 40 :=
      ⟨0, none, none, rfl, Same.refl _, by rw [List.take_zero]; exact .nil, by rw [List.take_zero]; exact (fun r hr => nomatch hr), .inl rfl, by decide⟩
    rcases hB.sq with hq | hq
    case' inl =>
      refine .inl ⟨hq, ?_⟩
      refine for_it walk_enum (fun i σ H' => ∃ (lat : Int) (x2 x3 : Option V), σ = [some (.ref t), some (.int lat), x2, x3] ∧ Same H H' ∧ Rising (rs.take i) ∧ (∀ r ∈ rs.take i, r.m ≤ lat) ∧ (lat = 0 ∨ ∃ r j, j < i ∧ rs[j]? = some r ∧ r.m = lat) ∧ i ≤ 40)
        start (fun i σ H' _ q => by obtain ⟨_, _, _, _, s, _⟩ := q; exact same_seqL s hq) ?hsL ?hdL
    case' inr =>
      refine .inr ⟨hq, ?_⟩
      refine for_it walk_enumT (fun i σ H' => ∃ (lat : Int) (x2 x3 : Option V), σ = [some (.ref t), some (.int lat), x2, x3] ∧ Same H H' ∧ Rising (rs.take i) ∧ (∀ r ∈ rs.take i, r.m ≤ lat) ∧ (lat = 0 ∨ ∃ r j, j < i ∧ rs[j]? = some r ∧ r.m = lat) ∧ i ≤ 40)
        start (fun i σ H' _ q => by obtain ⟨_, _, _, _, s, _⟩ := q; exact same_seqT s hq) ?hsR ?hdR
    case hsL | hsR =>
      rintro i x σ H2 H3 hi ⟨lat, x2, x3, rfl, s2, ris, low, own, i40⟩ ⟨Tq, y1, y2, rfl, hTq, rfl, e1, e3⟩
      have : y1 = V.int (i : Nat) := (Option.some.inj e1).symm
      subst this
      obtain ⟨a, ha, rfl⟩ : ∃ a, as[i]? = some a ∧ y2 = V.ref a := by
        have e3 : (as.map V.ref)[i]? = some y2 := e3
        rw [List.getElem?_map] at e3
        cases z : as[i]? with
        | none => rw [z] at e3; cases e3
        | some a => rw [z] at e3; exact ⟨a, rfl, (Option.some.inj e3).symm⟩
      have hir : i < rs.length := by
        have := (List.getElem?_eq_some_iff.mp ha).1
        have := hB.ln
        omega
      obtain ⟨r, hr1⟩ : ∃ r, rs[i]? = some r := ⟨_, List.getElem?_eq_getElem hir⟩
      have rowA := hB.at_ i a r ha hr1
      have okr := oks r (List.mem_of_getElem? hr1)
      generalize hX : upd H2 Tq _ = H4
      obtain ⟨S4, f4⟩ := alloc hTq hX
      clear hX
      refine ⟨Tq, _, rfl, SqT.of f4, rfl, _, _, rfl, _, _, rfl, rfl, ?_⟩
      refine ⟨_, rfl, _, _, rfl, rfl, _, rfl, ite2 (fun z => ?_) (fun z => ?_)⟩
      · have z' : (40 : Int) ≤ (i : Nat) := of_decide_eq_true z
        exact ⟨_, rfl, k _ _ (s2.trans S4) (.inr ⟨⟨_, rfl⟩, fun q => by have := q.2; omega⟩)⟩
      · have z' : ¬ (40 : Int) ≤ (i : Nat) := fun y => z (decide_eq_true y)
        refine ⟨_, rfl, a, r, rfl, SqE.same rowA (s2.trans S4), okr, fun H5 S5 => ?_⟩
        have s5 := (s2.trans S4).trans S5
        refine ⟨_, rfl, ?_⟩
        show if false = true then _ else _
        refine ⟨_, rfl, a, _, _, _, rfl, rfl, SqE.same rowA s5, rfl, _, rfl, _, _, rfl, rfl, _, rfl, ite2 (fun y => ?_) (fun y => ?_)⟩
        · have y' : r.m < lat := of_decide_eq_true y
          refine ⟨_, rfl, k _ _ s5 (.inr ⟨⟨_, rfl⟩, fun q => ?_⟩)⟩
          rcases own with own | ⟨r2, j, hj, er2, em⟩
          · have := okr.ok.m0
            omega
          · have h1 := q.1
            unfold Rising at h1
            rw [List.pairwise_iff_getElem] at h1
            obtain ⟨l1, g1⟩ := List.getElem?_eq_some_iff.mp er2
            obtain ⟨l2, g2⟩ := List.getElem?_eq_some_iff.mp hr1
            have := h1 j i l1 l2 hj
            rw [g1, g2] at this
            omega
        · have y' : lat ≤ r.m := by
            have : ¬ r.m < lat := fun q => y (decide_eq_true q)
            omega
          refine ⟨_, rfl, a, _, _, _, rfl, rfl, SqE.same rowA s5, rfl, r.m, _, _, rfl, s5, ?_, ?_, .inr ⟨r, i, Nat.lt_succ_self i, hr1, rfl⟩, by omega⟩
          · rw [take_snoc hr1]
            exact rising_snoc ris fun q hq => by have := low q hq; omega
          · rw [take_snoc hr1]
            intro q hq
            rcases List.mem_append.mp hq with z | z
            · have := low q z
              omega
            · have : q = r := by simpa using z
              subst this
              exact Int.le_refl _
    case hdL | hdR =>
      rintro σ H2 ⟨lat, x2, x3, rfl, s2, ris, low, own, i40⟩
      rw [List.length_map, hB.ln] at i40 ris
      rw [List.take_length] at ris
      exact k _ _ s2 (.inl ⟨rfl, ris, i40⟩)
def spIsLog (K : PySem.W.Frag) : Sp := fun vs H Q _ => ∃ (t : Addr) (rs : List Row), vs = [.ref t] ∧ LogAt K H t rs ∧ (∀ r ∈ rs, r.Ok2) ∧ ∀ H' b, Same H H' → (b = true ↔ Fit rs) → Q (.bl b) H'
theorem ok_is_log (T : Txt w K mg) : FnOk P w K mg base CX0 5 T.a_is_log T.d_is_log ["thing"] (spIsLog K) := by
  have G_wrong_at := ok_wrong_at (P := P) (base := base) T
  refine T.F_is_log.ok sc_is_log (fun vs H Q E h => ?_) (fun cdv A outer s H vs Q E hr h => ?_)
  · obtain ⟨t, rs, rfl, _⟩ := h
    rfl
  · obtain ⟨t, rs, rfl, ⟨as, hT, hR⟩, oks, k⟩ := h
    have hr_wrong_at := hr
    refine ⟨_, (pss_cons (ps_if (PW.pt (pw_or (pt_not (pt_val (pe_callB (k_isi K) (by rfl) T.z_isinstance (by decide +kernel) (pa_cons (pv 0) (pa_cons (pe_bltn (v := .ty "tuple") (by rfl) T.z_tuple (by decide +kernel) rfl) pa_nil))))) (pw_or1 (pt_cmpR op_notN (pe_call G_wrong_at hr_wrong_at (by rfl) T.g_wrong_at T.F_wrong_at.kp T.b_wrong_at .nil pass0 (pa_cons (pv 0) pa_nil)) pe_non (nomark _))))) (pss_one (ps_ret pe_bl)) pss_nil)
  (pss_one (ps_ret (pe_callB (k_all K rfl) (by rfl) T.z_all (by decide +kernel) (pa_cons (pe_lc (own := [("row", 1)]) rfl sc_is_log.nd (k_piT K (pv 0)) (blkOk_by (own := [("row", 1)]) (N := ["thing", "row"]) (sc := defScope s_is_log) (by decide +kernel)) (fun _ _ _ _ _ => (pg_name (i := 1) sc_is_log.nd rfl (by first | exact Or.inl rfl | exact Or.inr rfl))) (fun _ _ _ _ _ => pts_nil) (fun _ _ _ _ _ => (pe_callB (k_isi K) (by rfl) T.z_isinstance (by decide +kernel) (pa_cons (pv 1) (pa_cons (pe_bltn (v := .ty "tuple") (by rfl) T.z_tuple (by decide +kernel) rfl) pa_nil))))) pa_nil))))), ?_⟩
    refine ⟨_, rfl, _, _, _, _, true, rfl, ClsV.ty "tuple", seqT_ty hT, kit_ty (by decide +kernel), _, rfl, ?_⟩
    show if false = true then _ else _
    refine ⟨_, rfl, t, as, rs, rfl, LogAt.book hT hR, oks, fun H1 v S1 hv => ?_⟩
    rcases hv with ⟨rfl, fit⟩ | ⟨⟨i, rfl⟩, nofit⟩
    · refine ⟨rfl, _, rfl, ?_⟩
      show if false = true then _ else _
      refine ⟨_, rfl, t, rfl, ⟨_, same_seqT S1 hT⟩, fun D hD => ?_⟩
      refine lc_it walk_tup (fun i H' => Same H H' ∧ H' D = some (.lst ((List.replicate i true).map V.bl))) ⟨same_new S1 hD, upd_same⟩ (fun i H' _ q => same_seqT q.1 hT) ?_ ?_
      · rintro i x H2 H3 hi ⟨s2, e2⟩ ⟨rfl, e3⟩
        obtain ⟨a, ha, rfl⟩ : ∃ a, as[i]? = some a ∧ x = V.ref a := by
          have e3 : (as.map V.ref)[i]? = some x := e3
          rw [List.getElem?_map] at e3
          cases z : as[i]? with
          | none => rw [z] at e3; cases e3
          | some a => rw [z] at e3; exact ⟨a, rfl, (Option.some.inj e3).symm⟩
        obtain ⟨r, hr1, hr2⟩ := hR.get' ha
        have hD0 : H D = none := by
          cases z : H D with
          | none => rfl
          | some o => rw [S1 D o z] at hD; cases hD
        refine ⟨rfl, _, rfl, _, _, _, _, true, rfl, ClsV.ty "tuple", seqT_ty (same_seqT s2 hr2), kit_ty (by decide +kernel), _, e2, ?_, same_own s2 hD0, ?_⟩
        · rw [List.length_map, List.length_replicate]
          rw [List.length_map, hR.length] at hi
          have := fit.2
          exact small1000 (by omega)
        · rw [upd_same, List.replicate_succ', List.map_append]
          rfl
      · rintro H2 ⟨s2, e2⟩
        refine ⟨D, _, rfl, SqL.of e2, ?_⟩
        refine k H2 _ s2 ⟨fun _ => fit, fun _ => ?_⟩
        rw [List.all_eq_true]
        intro x hx
        exact (List.mem_replicate.mp hx).2
    · refine ⟨rfl, _, rfl, ?_⟩
      show if true = true then _ else _
      exact k H1 false S1 ⟨fun z => Bool.noConfusion z, fun z => absurd z nofit⟩

def spLogOf (K : PySem.W.Frag) : Sp := fun vs H Q _ => ∃ (t : Addr) (as : List Addr) (rs : List Row), vs = [.ref t] ∧ BookAt K H t as rs ∧ (∀ r ∈ rs, r.Ok2) ∧ Fit rs ∧ ∀ H' b, Same H H' → LogAt K H' b rs → Q (.ref b) H'
theorem ok_log_of (T : Txt w K mg) : FnOk P w K mg base CX0 5 T.a_log_of T.d_log_of ["rows"] (spLogOf K) := by
  have G_wrong_at := ok_wrong_at (P := P) (base := base) T
  have G_row_of := ok_row_of (P := P) (base := base) T
  refine T.F_log_of.ok sc_log_of (fun vs H Q E h => ?_) (fun cdv A outer s H vs Q E hr h => ?_)
  · obtain ⟨t, as, rs, rfl, _⟩ := h
    rfl
  · obtain ⟨t, as, rs, rfl, hB, oks, fit, k⟩ := h
    have hr_wrong_at := hr
    have hr_row_of := hr
    refine ⟨_, (pss_cons (ps_if (pt_not (pt_val (pe_callB (k_isiT K) (by rfl) T.z_isinstance (by decide +kernel) (pa_cons (pv 0) (pa_cons (pe_tup (pa_cons (pe_bltn (v := .ty "list") (by rfl) T.z_list (by decide +kernel) rfl) (pa_cons (pe_bltn (v := .ty "tuple") (by rfl) T.z_tuple (by decide +kernel) rfl) pa_nil))) pa_nil))))) (pss_one ps_never) pss_nil)
  (pss_cons (ps_set (i := 1) sc_log_of.nd rfl (by first | exact Or.inl rfl | exact Or.inr rfl) (pe_call G_wrong_at hr_wrong_at (by rfl) T.g_wrong_at T.F_wrong_at.kp T.b_wrong_at .nil pass0 (pa_cons (pv 0) pa_nil)))
  (pss_cons (ps_if (pt_cmpR op_notN (pv 1) pe_non (nomark _)) (pss_one ps_never) pss_nil)
  (pss_one (ps_ret (pe_callTy (k_tupOf K) (by rfl) T.z_tuple (by decide +kernel) (pa_cons (pe_lc (own := [("row", 2)]) rfl sc_log_of.nd (k_piV K (pv 0)) (blkOk_by (own := [("row", 2)]) (N := ["rows", "at", "row"]) (sc := defScope s_log_of) (by decide +kernel)) (fun _ _ _ _ _ => (pg_name (i := 2) sc_log_of.nd rfl (by first | exact Or.inl rfl | exact Or.inr rfl))) (fun _ _ _ _ _ => pts_nil) (fun _ _ _ _ _ => (pe_call G_row_of hr_row_of (by rfl) T.g_row_of T.F_row_of.kp T.b_row_of .nil pass0 (pa_cons (pv 2) pa_nil)))) pa_nil))))))), ?_⟩
    refine ⟨_, rfl, (by show 2 ≤ sizeLine; decide), fun u hu => ?_⟩
    generalize hX : upd H u _ = H1
    obtain ⟨S1, f1⟩ := alloc hu hX
    clear hX
    have B1 := hB.same S1
    obtain ⟨ty, hty, hk⟩ : ∃ ty : Value, TyX K H1 (.ref t) ty ∧ PySem.W.kitAny K ty [.type "list", .type "tuple"] = some true := by
      rcases B1.sq with q | q
      · exact ⟨_, seqL_ty q, rfl⟩
      · exact ⟨_, seqT_ty q, rfl⟩
    refine ⟨_, u, [.ty "list", .ty "tuple"], ty, [.type "list", .type "tuple"], true, rfl, f1, .cons (ClsV.ty "list") (.cons (ClsV.ty "tuple") .nil), hty, hk, _, rfl, ?_⟩
    show if false = true then _ else _
    refine ⟨_, rfl, t, as, rs, rfl, B1, oks, fun H2 v S2 hv => ?_⟩
    rcases hv with ⟨rfl, _⟩ | ⟨_, nofit⟩
    case inr => exact absurd fit nofit
    refine ⟨_, rfl, rfl, _, rfl, ?_⟩
    show if false = true then _ else _
    have S12 := S1.trans S2
    have B2 := hB.same S12
    obtain ⟨len40, _⟩ : rs.length ≤ 40 ∧ True := ⟨fit.2, trivial⟩
    refine ⟨t, rfl, ?_⟩
    rcases hB.sq with hq | hq
    case' inl =>
      refine .inl ⟨⟨_, same_seqL S12 hq⟩, fun D hD => ?_⟩
      refine lc_it walk_list (fun i H' => Same H H' ∧ ∃ bs : List Addr, H' D = some (.lst (bs.map V.ref)) ∧ RowsAt K H' bs (rs.take i)) ⟨same_new S12 hD, [], upd_same, by rw [List.take_zero]; exact .nil⟩
        (fun i H' _ q => same_seqL q.1 hq) ?hsL ?hdL
    case' inr =>
      refine .inr ⟨⟨_, same_seqT S12 hq⟩, fun D hD => ?_⟩
      refine lc_it walk_tup (fun i H' => Same H H' ∧ ∃ bs : List Addr, H' D = some (.lst (bs.map V.ref)) ∧ RowsAt K H' bs (rs.take i)) ⟨same_new S12 hD, [], upd_same, by rw [List.take_zero]; exact .nil⟩
        (fun i H' _ q => same_seqT q.1 hq) ?hsR ?hdR
    case hsL | hsR =>
      rintro i x H3 H4 hi ⟨s3, bs, e3, rows3⟩ ⟨rfl, hx⟩
      obtain ⟨a, ha, rfl⟩ : ∃ a, as[i]? = some a ∧ x = V.ref a := by
        have hx : (as.map V.ref)[i]? = some x := hx
        rw [List.getElem?_map] at hx
        cases z : as[i]? with
        | none => rw [z] at hx; cases hx
        | some a => rw [z] at hx; exact ⟨a, rfl, (Option.some.inj hx).symm⟩
      have hir : i < rs.length := by
        have := (List.getElem?_eq_some_iff.mp ha).1
        have := hB.ln
        omega
      obtain ⟨r, hr1⟩ : ∃ r, rs[i]? = some r := ⟨_, List.getElem?_eq_getElem hir⟩
      have hD0 : H D = none := by
        cases z : H D with
        | none => rfl
        | some o => rw [S12 D o z] at hD; cases hD
      refine ⟨rfl, _, rfl, a, r, rfl, SqE.same (hB.at_ i a r ha hr1) s3, oks r (List.mem_of_getElem? hr1), fun H5 b S5 rowb => ?_⟩
      have e5 := S5 _ _ e3
      have b5 : But D H5 (upd H5 D (.lst (bs.map V.ref ++ [V.ref b]))) := But.put
      refine ⟨_, e5, ?_, same_own (s3.trans S5) hD0, bs ++ [b], by rw [upd_same, List.map_append]; rfl, ?_⟩
      · have l3 := rows3.length
        rw [List.length_take] at l3
        rw [List.length_map]
        exact small1000 (by omega)
      · rw [take_snoc hr1]
        exact ((rows3.same S5).snoc rowb).lst e5 b5
    case hdL | hdR =>
      rintro H3 ⟨s3, bs, e3, rows3⟩
      rw [List.length_map, hB.ln, List.take_length] at rows3
      exact ⟨D, _, rfl, .inl ⟨SqL.of e3, fun l hl => k _ l (same_new s3 hl) ⟨bs, SqT.of upd_same, rows3.same (same_new (Same.refl _) hl)⟩⟩⟩
/-! ### numbers of rows -/
def whereAt (rs : List Row) (p : Row → Bool) (i : Nat) : Bool := match rs[i]? with
  | some r => p r
  | none => false
def whr (rs : List Row) (p : Row → Bool) (n : Nat) : List Nat := (List.range n).filter (whereAt rs p)
def nv (n : Nat) : V := .int (n : Int)
def nd (n : Nat) : PyData := .int (n : Int)
theorem whr_succ (rs : List Row) (p : Row → Bool) (i : Nat) : whr rs p (i + 1) = if whereAt rs p i = true then whr rs p i ++ [i] else whr rs p i := by
  unfold whr
  rw [List.range_succ, List.filter_append, List.filter_cons]
  split <;> simp
theorem whr_len (rs : List Row) (p : Row → Bool) (i : Nat) : (whr rs p i).length ≤ i := by
  have := List.length_filter_le (whereAt rs p) (List.range i)
  rw [List.length_range] at this
  exact this
theorem whr_at {rs : List Row} {r : Row} {p : Row → Bool} {i : Nat} (h : rs[i]? = some r) : whereAt rs p i = p r := by
  unfold whereAt
  rw [h]
theorem whr_rep {rs : List Row} (p : Row → Bool) (l : rs.length ≤ 41) : RepOk (.list ((whr rs p rs.length).map nd)) 1 41 := by
  have e : (whr rs p rs.length).map nd = ((whr rs p rs.length).map fun n : Nat => (n : Int)).map PyData.int := by rw [List.map_map]; rfl
  rw [e]
  refine ints_rep (fun n hn => ?_) ?_
  · obtain ⟨j, hj, rfl⟩ := List.mem_map.mp hn
    have := (List.mem_filter.mp hj).1
    have := List.mem_range.mp this
    have : ((j : Nat) : Int).natAbs < 41 := by omega
    exact Nat.lt_trans this (by decide)
  · rw [List.length_map]
    have := whr_len rs p rs.length
    omega
theorem nats_dp {K : PySem.W.Frag} {H : Hp} : ∀ ns : List Nat, DpAll K H (ns.map nv) (ns.map nd)
  | [] => .nil
  | n :: r => .cons (.int _) (nats_dp r)
def onP (l : Str) : Row → Bool := fun r => decide (r.l = l)
def inP (f l : Int) : Row → Bool := fun r => decide (f ≤ r.m) && decide (r.m ≤ l)
def spRowsOn (K : PySem.W.Frag) : Sp := fun vs H Q _ => ∃ (t : Addr) (rs : List Row) (l : Str), vs = [.ref t, .str l] ∧ LogAt K H t rs ∧ rs.length ≤ 41 ∧
  ∀ H' q, Same H H' → H q = none → H' q = some (.lst ((whr rs (onP l) rs.length).map nv)) → Q (.ref q) H'
theorem ok_rows_on (T : Txt w K mg) : FnOk P w K mg base CX0 1 T.a_rows_on T.d_rows_on ["log", "line"] (spRowsOn K) := by
  refine T.F_rows_on.ok sc_rows_on (fun vs H Q E h => ?_) (fun cdv A outer s H vs Q E hr h => ?_)
  · obtain ⟨t, rs, l, rfl, _⟩ := h
    rfl
  · obtain ⟨t, rs, l, rfl, hL, hlen, k⟩ := h
    obtain ⟨as, hT, hR⟩ := id hL
    refine ⟨_, (pss_one (ps_ret (pe_lc (own := [("number", 2), ("row", 3)]) rfl sc_rows_on.nd (pi_enumA (by rfl) T.z_enumerate (pa_cons (pv 0) pa_nil)) (blkOk_by (own := [("number", 2), ("row", 3)]) (N := ["log", "line", "number", "row"]) (sc := defScope s_rows_on) (by decide +kernel)) (fun _ _ _ _ _ => (k_pgT (n := 2) K rfl (pgs_cons (pg_name (i := 2) sc_rows_on.nd rfl (by first | exact Or.inl rfl | exact Or.inr rfl)) (pgs_cons (pg_name (i := 3) sc_rows_on.nd rfl (by first | exact Or.inl rfl | exact Or.inr rfl)) pgs_nil)))) (fun _ _ _ _ _ => (pts_one (pt_cmpR op_eq (pe_ix (kx_tup K) (pv 3) pe_int (fun _ _ => rfl)) (pv 1) (nomark _)))) (fun _ _ _ _ _ => (pv 2))))), ?_⟩
    refine ⟨_, rfl, t, _, rfl, .inr ⟨hT, fun D hD => ?_⟩⟩
    refine lc_it walk_enumT (fun i H' => Same H H' ∧ H' D = some (.lst ((whr rs (onP l) i).map nv))) ⟨same_new (Same.refl _) hD, upd_same⟩ (fun i H' _ q => same_seqT q.1 hT) ?_ ?_
    · rintro i x H2 H3 hi ⟨s2, e2⟩ ⟨Tq, y1, y2, rfl, hTq, rfl, e1, e3⟩
      have : y1 = V.int (i : Nat) := (Option.some.inj e1).symm
      subst this
      obtain ⟨a, ha, rfl⟩ : ∃ a, as[i]? = some a ∧ y2 = V.ref a := by
        have e3 : (as.map V.ref)[i]? = some y2 := e3
        rw [List.getElem?_map] at e3
        cases z : as[i]? with
        | none => rw [z] at e3; cases e3
        | some a => rw [z] at e3; exact ⟨a, rfl, (Option.some.inj e3).symm⟩
      obtain ⟨r, hr1, hr2⟩ := hR.get' ha
      generalize hX : upd H2 Tq _ = H3
      obtain ⟨S3, f3⟩ := alloc hTq hX
      clear hX
      have rowA := same_seqT (s2.trans S3) hr2
      refine ⟨Tq, _, rfl, SqT.of f3, rfl, _, _, rfl, _, _, rfl, rfl, rfl, _, rfl, a, _, _, _, rfl, rfl, rowA, rfl, _, rfl, rfl, _, rfl, ?_⟩
      have el : whereAt rs (onP l) i = decide (V.str r.l = V.str l) := by
        rw [whr_at hr1, Bool.eq_iff_iff]
        simp [onP]
      rw [whr_succ, el]
      have e4 := S3 _ _ e2
      refine ite2 (fun z => ?_) (fun z => ?_)
      · rw [if_pos z]
        refine ⟨_, rfl, _, e4, ?_, same_own (s2.trans S3) hD, ?_⟩
        · rw [List.length_map]
          have := whr_len rs (onP l) i
          rw [List.length_map, hR.length] at hi
          exact small1000 (by omega)
        · rw [upd_same, List.map_append]
          rfl
      · rw [if_neg z]
        exact ⟨s2.trans S3, e4⟩
    · rintro H2 ⟨s2, e2⟩
      rw [List.length_map, hR.length] at e2
      exact k H2 D s2 hD e2
def spRowsIn (K : PySem.W.Frag) : Sp := fun vs H Q _ => ∃ (t : Addr) (rs : List Row) (f l : Int), vs = [.ref t, .int f, .int l] ∧ LogAt K H t rs ∧ rs.length ≤ 41 ∧
  ∀ H' q, Same H H' → H q = none → H' q = some (.lst ((whr rs (inP f l) rs.length).map nv)) → Q (.ref q) H'
theorem ok_rows_between (T : Txt w K mg) : FnOk P w K mg base CX0 1 T.a_rows_between T.d_rows_between ["log", "first", "last"] (spRowsIn K) := by
  refine T.F_rows_between.ok sc_rows_between (fun vs H Q E h => ?_) (fun cdv A outer s H vs Q E hr h => ?_)
  · obtain ⟨t, rs, f, l, rfl, _⟩ := h
    rfl
  · obtain ⟨t, rs, f, l, rfl, hL, hlen, k⟩ := h
    obtain ⟨as, hT, hR⟩ := id hL
    refine ⟨_, (pss_one (ps_ret (pe_lc (own := [("number", 3), ("row", 4)]) rfl sc_rows_between.nd (pi_enumA (by rfl) T.z_enumerate (pa_cons (pv 0) pa_nil)) (blkOk_by (own := [("number", 3), ("row", 4)]) (N := ["log", "first", "last", "number", "row"]) (sc := defScope s_rows_between) (by decide +kernel)) (fun _ _ _ _ _ => (k_pgT (n := 2) K rfl (pgs_cons (pg_name (i := 3) sc_rows_between.nd rfl (by first | exact Or.inl rfl | exact Or.inr rfl)) (pgs_cons (pg_name (i := 4) sc_rows_between.nd rfl (by first | exact Or.inl rfl | exact Or.inr rfl)) pgs_nil)))) (fun _ _ _ _ _ => (pts_one (pt_chain op_le op_le (pv 1) (pe_ix (kx_tup K) (pv 4) pe_int (fun _ _ => rfl)) (pv 2)))) (fun _ _ _ _ _ => (pv 3))))), ?_⟩
    refine ⟨_, rfl, t, _, rfl, .inr ⟨hT, fun D hD => ?_⟩⟩
    refine lc_it walk_enumT (fun i H' => Same H H' ∧ H' D = some (.lst ((whr rs (inP f l) i).map nv))) ⟨same_new (Same.refl _) hD, upd_same⟩ (fun i H' _ q => same_seqT q.1 hT) ?_ ?_
    · rintro i x H2 H3 hi ⟨s2, e2⟩ ⟨Tq, y1, y2, rfl, hTq, rfl, e1, e3⟩
      have : y1 = V.int (i : Nat) := (Option.some.inj e1).symm
      subst this
      obtain ⟨a, ha, rfl⟩ : ∃ a, as[i]? = some a ∧ y2 = V.ref a := by
        have e3 : (as.map V.ref)[i]? = some y2 := e3
        rw [List.getElem?_map] at e3
        cases z : as[i]? with
        | none => rw [z] at e3; cases e3
        | some a => rw [z] at e3; exact ⟨a, rfl, (Option.some.inj e3).symm⟩
      obtain ⟨r, hr1, hr2⟩ := hR.get' ha
      generalize hX : upd H2 Tq _ = H3
      obtain ⟨S3, f3⟩ := alloc hTq hX
      clear hX
      have rowA := same_seqT (s2.trans S3) hr2
      have e4 := S3 _ _ e2
      refine ⟨Tq, _, rfl, SqT.of f3, rfl, _, _, rfl, _, _, rfl, rfl, rfl, _, rfl, _, rfl, a, _, _, _, rfl, rfl, rowA, rfl, _, _, rfl, rfl, _, rfl, ?_⟩
      have el : whereAt rs (inP f l) i = (decide (f ≤ r.m) && decide (r.m ≤ l)) := whr_at hr1
      rw [whr_succ, el]
      have no : (decide (f ≤ r.m) && decide (r.m ≤ l)) = false → Same H H3 ∧ H3 D = some (.lst ((if (decide (f ≤ r.m) && decide (r.m ≤ l)) = true then whr rs (inP f l) i ++ [i] else whr rs (inP f l) i).map nv)) := fun z => by
        rw [z]
        exact ⟨s2.trans S3, e4⟩
      refine ite2 (fun z => ?_) (fun z => ?_)
      · refine ⟨_, rfl, _, _, rfl, rfl, _, rfl, ite2 (fun y => ?_) (fun y => ?_)⟩
        · have q : (decide (f ≤ r.m) && decide (r.m ≤ l)) = true := by rw [z, y]; rfl
          rw [if_pos q]
          refine ⟨_, rfl, _, e4, ?_, same_own (s2.trans S3) hD, ?_⟩
          · rw [List.length_map]
            have := whr_len rs (inP f l) i
            rw [List.length_map, hR.length] at hi
            exact small1000 (by omega)
          · rw [upd_same, List.map_append]
            rfl
        · refine no ?_
          rw [z]
          cases q : decide (r.m ≤ l) with
          | true => exact absurd q y
          | false => rfl
      · refine ⟨_, rfl, no ?_⟩
        cases q : decide (f ≤ r.m) with
        | true => exact absurd q z
        | false => rfl
    · rintro H2 ⟨s2, e2⟩
      rw [List.length_map, hR.length] at e2
      exact k H2 D s2 hD e2
def spOnLaw (K : PySem.W.Frag) : Sp := fun vs H Q _ => ∃ (t : Addr) (rs : List Row) (l : Str), vs = [.ref t, .str l] ∧ LogAt K H t rs ∧ rs.length ≤ 41 ∧
  ∀ H' q, Same H H' → H q = none → H' q = some (.lst ((whr rs (onP l) rs.length).map nv)) → Q (.ref q) H'
theorem ok_on (T : Txt w K mg) : FnOk P w K mg base CX0 1 T.a_on T.d_on ["_law_book", "_law_bell"] (spOnLaw K) := by
  refine T.F_on.ok sc_on (fun vs H Q E h => ?_) (fun cdv A outer s H vs Q E hr h => ?_)
  · obtain ⟨t, rs, l, rfl, _⟩ := h
    rfl
  · obtain ⟨t, rs, l, rfl, hL, hlen, k⟩ := h
    obtain ⟨as, hT, hR⟩ := id hL
    have la := hR.length
    refine ⟨_, (pss_cons (ps_set (i := 2) sc_on.nd rfl (by first | exact Or.inl rfl | exact Or.inr rfl) (pe_lst pa_nil))
  (pss_cons (ps_for PassesOwn.never rfl (pi_range1 (by rfl) T.z_range (pa_cons (pe_callB (k_len K) (by rfl) T.z_len (by decide +kernel) (pa_cons (pv 0) pa_nil)) pa_nil)) (pg_name (i := 3) sc_on.nd rfl (by first | exact Or.inl rfl | exact Or.inr rfl)) (pss_one (ps_if (pt_cmpR op_eq (pe_ix (kx_tup K) (pe_ix (kx_tup K) (pv 0) (pv 3) (fun _ _ => rfl)) pe_int (fun _ _ => rfl)) (pv 1) (nomark _)) (pss_one (ps_expr (pe_bm PySem.F.plainAttrs_list PySem.F.slot_list_append PySem.F.type_list_append mt_append (pv 2) (pa_cons (pv 3) pa_nil)))) pss_nil)))
  (pss_one (ps_ret (pv 2))))), ?_⟩
    refine ⟨(by show 0 ≤ sizeLine; decide), fun D hD => ?_⟩
    generalize hX : upd H D _ = H1
    obtain ⟨S1, f1⟩ := alloc hD hX
    clear hX
    refine ⟨_, rfl, t, _, rfl, .inr (same_seqT S1 hT), _, rfl, by omega, by rw [List.length_map]; omega, ?_⟩
    refine for_it walk_range (fun i σ H' => ∃ (x3 : Option V), σ = [some (.ref t), some (.str l), some (.ref D), x3] ∧ Same H H' ∧ H' D = some (.lst ((whr rs (onP l) i).map nv)))
      ⟨none, rfl, S1, f1⟩ (fun _ _ _ _ _ => trivial) ?_ ?_
    · rintro i x σ H2 H3 hi ⟨x3, rfl, s2, e2⟩ ⟨rfl, hx⟩
      obtain rfl : x = nv i := by
        rw [hx]
        show V.int (0 + _) = _
        rw [Int.zero_add]
        rfl
      have hir : i < rs.length := by
        rw [List.length_map, la] at hi
        omega
      obtain ⟨r, hr1⟩ : ∃ r, rs[i]? = some r := ⟨_, List.getElem?_eq_getElem hir⟩
      obtain ⟨a, ha, hr2⟩ := hR.get hr1
      have ha2 : atI (as.map V.ref) ((i : Nat) : Int) = some (.ref a) := atI_nat (by rw [List.getElem?_map, ha]; rfl)
      refine ⟨_, rfl, _, rfl, t, _, _, _, rfl, rfl, same_seqT s2 hT, ha2, a, _, _, _, rfl, rfl, same_seqT s2 hr2, rfl, _, rfl, rfl, _, rfl, ?_⟩
      have el : whereAt rs (onP l) i = decide (V.str r.l = V.str l) := by
        rw [whr_at hr1, Bool.eq_iff_iff]
        simp [onP]
      rw [whr_succ, el]
      refine ite2 (fun z => ?_) (fun z => ?_)
      · rw [if_pos z]
        refine ⟨_, rfl, .inl ⟨rfl, _, SqL.of e2⟩, _, rfl, D, _, _, rfl, rfl, e2, ?_, _, rfl, same_own s2 hD, ?_⟩
        · rw [List.length_map]
          have := whr_len rs (onP l) i
          exact small1000 (by omega)
        · rw [upd_same, List.map_append]
          rfl
      · rw [if_neg z]
        exact ⟨_, rfl, s2, e2⟩
    · rintro σ H2 ⟨x3, rfl, s2, e2⟩
      have e3 : (((as.map V.ref).length : Nat) : Int).toNat = rs.length := by rw [List.length_map]; omega
      exact ⟨_, rfl, k H2 D s2 hD (by rw [e2]; simp [la])⟩
def spInLaw (K : PySem.W.Frag) : Sp := fun vs H Q _ => ∃ (t : Addr) (rs : List Row) (f l : Int), vs = [.ref t, .int f, .int l] ∧ LogAt K H t rs ∧ rs.length ≤ 41 ∧
  ∀ H' q, Same H H' → H q = none → H' q = some (.lst ((whr rs (inP f l) rs.length).map nv)) → Q (.ref q) H'
theorem ok_in (T : Txt w K mg) : FnOk P w K mg base CX0 1 T.a_in T.d_in ["_law_book", "_law_low", "_law_high"] (spInLaw K) := by
  refine T.F_in.ok sc_in (fun vs H Q E h => ?_) (fun cdv A outer s H vs Q E hr h => ?_)
  · obtain ⟨t, rs, f, l, rfl, _⟩ := h
    rfl
  · obtain ⟨t, rs, f, l, rfl, hL, hlen, k⟩ := h
    obtain ⟨as, hT, hR⟩ := id hL
    have la := hR.length
    refine ⟨_, (pss_cons (ps_set (i := 3) sc_in.nd rfl (by first | exact Or.inl rfl | exact Or.inr rfl) (pe_lst pa_nil))
  (pss_cons (ps_for PassesOwn.never rfl (pi_range1 (by rfl) T.z_range (pa_cons (pe_callB (k_len K) (by rfl) T.z_len (by decide +kernel) (pa_cons (pv 0) pa_nil)) pa_nil)) (pg_name (i := 4) sc_in.nd rfl (by first | exact Or.inl rfl | exact Or.inr rfl)) (pss_one (ps_if (PW.pt (pw_and (pt_cmpR op_ge (pe_ix (kx_tup K) (pe_ix (kx_tup K) (pv 0) (pv 4) (fun _ _ => rfl)) pe_int (fun _ _ => rfl)) (pv 1) (nomark _)) (pw_and1 (pt_cmpR op_le (pe_ix (kx_tup K) (pe_ix (kx_tup K) (pv 0) (pv 4) (fun _ _ => rfl)) pe_int (fun _ _ => rfl)) (pv 2) (nomark _))))) (pss_one (ps_expr (pe_bm PySem.F.plainAttrs_list PySem.F.slot_list_append PySem.F.type_list_append mt_append (pv 3) (pa_cons (pv 4) pa_nil)))) pss_nil)))
  (pss_one (ps_ret (pv 3))))), ?_⟩
    refine ⟨(by show 0 ≤ sizeLine; decide), fun D hD => ?_⟩
    generalize hX : upd H D _ = H1
    obtain ⟨S1, f1⟩ := alloc hD hX
    clear hX
    refine ⟨_, rfl, t, _, rfl, .inr (same_seqT S1 hT), _, rfl, by omega, by rw [List.length_map]; omega, ?_⟩
    refine for_it walk_range (fun i σ H' => ∃ (x3 : Option V), σ = [some (.ref t), some (.int f), some (.int l), some (.ref D), x3] ∧ Same H H' ∧ H' D = some (.lst ((whr rs (inP f l) i).map nv)))
      ⟨none, rfl, S1, f1⟩ (fun _ _ _ _ _ => trivial) ?_ ?_
    · rintro i x σ H2 H3 hi ⟨x3, rfl, s2, e2⟩ ⟨rfl, hx⟩
      obtain rfl : x = nv i := by
        rw [hx]
        show V.int (0 + _) = _
        rw [Int.zero_add]
        rfl
      have hir : i < rs.length := by
        rw [List.length_map, la] at hi
        omega
      obtain ⟨r, hr1⟩ : ∃ r, rs[i]? = some r := ⟨_, List.getElem?_eq_getElem hir⟩
      obtain ⟨a, ha, hr2⟩ := hR.get hr1
      have ha2 : atI (as.map V.ref) ((i : Nat) : Int) = some (.ref a) := atI_nat (by rw [List.getElem?_map, ha]; rfl)
      have rowA := same_seqT s2 hr2
      have el : whereAt rs (inP f l) i = (decide (f ≤ r.m) && decide (r.m ≤ l)) := whr_at hr1
      refine ⟨_, rfl, _, rfl, t, _, _, _, rfl, rfl, same_seqT s2 hT, ha2, a, _, _, _, rfl, rfl, rowA, rfl, _, rfl, _, _, rfl, rfl, _, rfl, ?_⟩
      rw [whr_succ, el]
      refine ite2 (fun z => ?_) (fun z => ?_)
      · refine ⟨_, rfl, _, rfl, t, _, _, _, rfl, rfl, same_seqT s2 hT, ha2, a, _, _, _, rfl, rfl, rowA, rfl, _, rfl, _, _, rfl, rfl, _, rfl, ite2 (fun y => ?_) (fun y => ?_)⟩
        · have q : (decide (f ≤ r.m) && decide (r.m ≤ l)) = true := by rw [z, y]; rfl
          rw [if_pos q]
          refine ⟨_, rfl, .inl ⟨rfl, _, SqL.of e2⟩, _, rfl, D, _, _, rfl, rfl, e2, ?_, _, rfl, same_own s2 hD, ?_⟩
          · rw [List.length_map]
            have := whr_len rs (inP f l) i
            exact small1000 (by omega)
          · rw [upd_same, List.map_append]
            rfl
        · have q : ¬ (decide (f ≤ r.m) && decide (r.m ≤ l)) = true := by rw [z, Bool.true_and]; exact y
          rw [if_neg q]
          exact ⟨_, rfl, s2, e2⟩
      · have q : ¬ (decide (f ≤ r.m) && decide (r.m ≤ l)) = true := fun w => by
          rw [Bool.and_eq_true] at w
          exact z w.1
        rw [if_neg q]
        exact ⟨_, rfl, s2, e2⟩
    · rintro σ H2 ⟨x3, rfl, s2, e2⟩
      exact ⟨_, rfl, k H2 D s2 hD (by rw [e2]; simp [la])⟩
def spMinLaw (K : PySem.W.Frag) : Sp := fun vs H Q _ => ∃ (p c t : Addr) (n : Nat) (rs : List Row), vs = [.ref p, .ref t] ∧ PenAt H p c n ∧ Cells K H p c ∧ n ≤ 90000 ∧ LogAt K H t rs ∧ rs.length ≤ 41 ∧
  ∀ H' m, Go K p c H (n + 3) H' → Q (.int m) H'
theorem ok_minute (T : Txt w K mg) : FnOk P w K mg base CX0 2 T.a_minute T.d_minute ["_law_pen", "_law_book"] (spMinLaw K) := by
  have G_draw := ok_draw (P := P) (base := base) T
  refine T.F_minute.ok sc_minute (fun vs H Q E h => ?_) (fun cdv A outer s H vs Q E hr h => ?_)
  · obtain ⟨p, c, t, n, rs, rfl, _⟩ := h
    rfl
  · obtain ⟨p, c, t, n, rs, rfl, hp, hc, hn, hL, hlen, k⟩ := h
    obtain ⟨as, hT, hR⟩ := id hL
    have la := hR.length
    have hr_draw := hr
    refine ⟨_, (pss_cons (ps_set (i := 2) sc_minute.nd rfl (by first | exact Or.inl rfl | exact Or.inr rfl) (pe_op op_cat (pe_lst (pa_cons pe_int (pa_cons pe_int (pa_cons (pe_un un_neg pe_int) (pa_cons pe_int (pa_cons (pe_op op_pow pe_int pe_int) (pa_cons (pe_call G_draw hr_draw (by rfl) T.g_draw T.F_draw.kp T.b_draw .nil pass0 (pa_cons (pv 0) (pa_cons pe_int pa_nil))) pa_nil))))))) (pe_lc (own := [("_law_row_here", 3)]) rfl sc_minute.nd (k_piT K (pv 1)) (blkOk_by (own := [("_law_row_here", 3)]) (N := ["_law_pen", "_law_book", "_law_minutes", "_law_row_here"]) (sc := defScope s_minute) (by decide +kernel)) (fun _ _ _ _ _ => (pg_name (i := 3) sc_minute.nd rfl (by first | exact Or.inl rfl | exact Or.inr rfl))) (fun _ _ _ _ _ => pts_nil) (fun _ _ _ _ _ => (pe_ix (kx_tup K) (pv 3) pe_int (fun _ _ => rfl))))))
  (pss_one (ps_ret (pe_op op_sub (pe_op op_add (pe_ix (kx_list K) (pv 2) (pe_call G_draw hr_draw (by rfl) T.g_draw T.F_draw.kp T.b_draw .nil pass0 (pa_cons (pv 0) (pa_cons (pe_callB (k_len K) (by rfl) T.z_len (by decide +kernel) (pa_cons (pv 2) pa_nil)) pa_nil))) (fun _ _ => rfl)) (pe_call G_draw hr_draw (by rfl) T.g_draw T.F_draw.kp T.b_draw .nil pass0 (pa_cons (pv 0) (pa_cons pe_int pa_nil)))) pe_int)))), ?_⟩
    refine ⟨_, rfl, _, _, rfl, rfl, ⟨by decide, by decide, by decide⟩, _, rfl, p, c, n, _, rfl, hp, hc, by omega, by decide, by decide, fun H1 r1 g1 a1 b1 => ⟨(by show 6 ≤ sizeLine; decide), fun l hl => ?_⟩⟩
    generalize hX : upd H1 l _ = H2
    obtain ⟨S2, f2⟩ := alloc hl hX
    have nl := Ne.symm (g1.ne_new hl)
    clear hX
    have hl0 := g1.free hl
    have G2 := g1.same S2
    have T2 := same_seqT S2 (seqT_go hT hp g1.but)
    have R2 := (hR.go hp g1.but).same S2
    refine ⟨_, rfl, t, rfl, ⟨_, T2⟩, fun D hD => ?_⟩
    refine lc_it walk_tup (fun i H' => Same H2 H' ∧ ∃ ms : List Int, H' D = some (.lst (ms.map V.int)) ∧ ms.length = i) ⟨same_new (Same.refl _) hD, [], upd_same, rfl⟩ (fun i H' _ q => same_seqT q.1 T2) ?_ ?_
    · rintro i x H3 H4 hi ⟨s3, ms, e3, l3⟩ ⟨rfl, hx⟩
      obtain ⟨a, ha, rfl⟩ : ∃ a, as[i]? = some a ∧ x = V.ref a := by
        have hx : (as.map V.ref)[i]? = some x := hx
        rw [List.getElem?_map] at hx
        cases z : as[i]? with
        | none => rw [z] at hx; cases hx
        | some a => rw [z] at hx; exact ⟨a, rfl, (Option.some.inj hx).symm⟩
      obtain ⟨r, hr1, hr2⟩ := R2.get' ha
      rw [List.length_map, la] at hi
      refine ⟨rfl, _, rfl, a, _, _, _, rfl, rfl, same_seqT s3 hr2, rfl, _, e3, (by rw [List.length_map, l3]; exact small1000 (by omega)), same_own s3 hD, ms ++ [r.m], (by rw [upd_same, List.map_append]; rfl), by rw [List.length_append, l3]; rfl⟩
    · rintro H3 ⟨s3, ms, e3, l3⟩
      rw [List.length_map, la] at l3
      refine ⟨l, D, _, _, rfl, rfl, s3 _ _ f2, e3, (by rw [List.length_map, l3]; exact Nat.le_trans (show 6 + rs.length ≤ 47 by omega) (by decide)), fun m hm => ?_⟩
      have G3 := (G2.same s3).self
      have nm : m ≠ p := Ne.symm ((G2.same s3).ne_new hm)
      generalize hX : upd H3 m _ = H4
      obtain ⟨S4, f4⟩ := alloc hm hX
      clear hX
      have G4 := (G2.same s3).same S4
      have hlen2 : ([V.int 0, V.int 99999, V.int (-1), V.int 100000, V.int (10 ^ (29 : Int).toNat), V.int r1] ++ ms.map V.int).length = 6 + rs.length := by
        rw [List.length_append, List.length_map, l3]
        rfl
      refine ⟨_, rfl, _, rfl, _, rfl, m, _, rfl, .inl (SqL.of f4), p, c, _, _, rfl, G4.pen, G4.cel, by omega, by rw [hlen2]; omega, by rw [hlen2]; omega, fun H5 r5 g5 a5 b5 => ?_⟩
      obtain ⟨v, hv, ev⟩ := atI_lt (xs := [V.int 0, V.int 99999, V.int (-1), V.int 100000, V.int (10 ^ (29 : Int).toNat), V.int r1] ++ ms.map V.int) a5 b5
      obtain ⟨i, rfl⟩ : ∃ i : Int, v = V.int i := by
        rcases List.mem_append.mp hv with z | z
        · have q : v = V.int 0 ∨ v = V.int 99999 ∨ v = V.int (-1) ∨ v = V.int 100000 ∨ v = V.int (10 ^ (29 : Int).toNat) ∨ v = V.int r1 := by simpa using z
          rcases q with q | q | q | q | q | q <;> exact ⟨_, q⟩
        · obtain ⟨j, _, e⟩ := List.mem_map.mp z
          exact ⟨j, e.symm⟩
      refine ⟨m, _, _, _, rfl, rfl, g5.but.seqL nm (SqL.of f4), ev, _, rfl, p, c, _, _, rfl, g5.pen, g5.cel, by omega, by decide, by decide, fun H6 r6 g6 a6 b6 => ?_⟩
      refine ⟨_, _, rfl, rfl, _, _, rfl, rfl, k _ _ ((G4.trans (g5.trans g6)).mono (by omega))⟩
/-! ### repr of what the program tells -/
def spLines (K : PySem.W.Frag) : Sp := fun vs H Q _ => ∃ (t : Addr) (rs : List Row), vs = [.ref t] ∧ LogAt K H t rs ∧ rs.length ≤ 41 ∧ ∀ H', Same H H' → Q (.bl true) H'
theorem ok_lines_right (T : Txt w K mg) : GOk P w K mg base CX0 2 T.a_lines_right T.d_lines_right ["_law_book"] (spLines K) := by
  have G_on := ok_on (P := P) (base := base) T
  have G_rows_on := ok_rows_on (P := P) (base := base) T
  refine GOk.body T.F_lines_right sc_lines_right (fun vs H Q E h => ?_) (fun cdv A outer s H vs Q E hr hG h => ?_)
  · obtain ⟨t, rs, rfl, _⟩ := h
    rfl
  · obtain ⟨t, rs, rfl, hL, hlen, k⟩ := h
    have hr_on := hr
    have hr_rows_on := hr
    refine ⟨_, (pss_cons (ps_for PassesOwn.never rfl (k_piT K (pe_tup (pa_cons pe_str (pa_cons pe_str (pa_cons pe_str (pa_cons pe_str (pa_cons pe_str (pa_cons pe_str pa_nil)))))))) (pg_name (i := 1) sc_lines_right.nd rfl (by first | exact Or.inl rfl | exact Or.inr rfl)) (pss_cons (ps_set (i := 2) sc_lines_right.nd rfl (by first | exact Or.inl rfl | exact Or.inr rfl) (pe_call G_on hr_on (by rfl) T.g_on T.F_on.kp T.b_on .nil pass0 (pa_cons (pv 0) (pa_cons (pv 1) pa_nil))))
  (pss_cons (ps_for PassesOwn.never rfl (pi_range1 (by rfl) T.z_range (pa_cons pe_int pa_nil)) (pg_name (i := 3) sc_lines_right.nd rfl (by first | exact Or.inl rfl | exact Or.inr rfl)) (pss_cons (ps_set (i := 4) sc_lines_right.nd rfl (by first | exact Or.inl rfl | exact Or.inr rfl) (pe_call G_rows_on hr_rows_on (by rfl) T.g_rows_on T.F_rows_on.kp T.b_rows_on .nil pass0 (pa_cons (pv 0) (pa_cons (pv 1) pa_nil))))
  (pss_cons (ps_if (pt_cmpR op_ne (pe_callB (k_repr K hG hr.units) (by rfl) T.z_repr (by decide +kernel) (pa_cons (pv 4) pa_nil)) (pe_callB (k_repr K hG hr.units) (by rfl) T.z_repr (by decide +kernel) (pa_cons (pv 2) pa_nil)) (nomark _)) (pss_one (ps_ret pe_bl)) pss_nil)
  (pss_one (ps_expr (pe_bm PySem.F.plainAttrs_list PySem.F.slot_list_append PySem.F.type_list_append mt_append (pv 4) (pa_cons pe_non pa_nil)))))))
  (pss_one (ps_if (pt_cmpR op_ne (pe_callB (k_repr K hG hr.units) (by rfl) T.z_repr (by decide +kernel) (pa_cons (pe_callK0 G_rows_on hr_rows_on (by rfl) T.g_rows_on T.F_rows_on.kp T.kb0_rows_on pass0 (pk_cons (pv 1) (pk_cons (pv 0) pk_nil))) pa_nil)) (pe_callB (k_repr K hG hr.units) (by rfl) T.z_repr (by decide +kernel) (pa_cons (pv 2) pa_nil)) (nomark _)) (pss_one (ps_ret pe_bl)) pss_nil)))))
  (pss_one (ps_ret pe_bl))), ?_⟩
    refine ⟨(by show 6 ≤ sizeLine; decide), fun u hu => ?_⟩
    generalize hX : upd H u _ = H1
    obtain ⟨S1, f1⟩ := alloc hu hX
    clear hX
    refine ⟨u, rfl, ⟨_, SqT.of f1⟩, ?_⟩
    refine for_it (walk_tup (xs := [V.str "port", V.str "star", V.str "aport", V.str "astar", V.str "down", V.str "up"])) (fun j σ H' => ∃ (x1 x2 x3 x4 : Option V), σ = [some (.ref t), x1, x2, x3, x4] ∧ Same H1 H')
      ⟨none, none, none, none, rfl, Same.refl _⟩ (fun j σ H' _ ⟨_, _, _, _, _, q⟩ => SqT.of (q _ _ f1)) ?_ ?_
    · rintro j x σ _ H2 hj ⟨x1, x2, x3, x4, rfl, S2⟩ ⟨rfl, hx⟩
      obtain ⟨l, rfl⟩ : ∃ l : Str, x = V.str l := by
        have z : x = V.str "port" ∨ x = V.str "star" ∨ x = V.str "aport" ∨ x = V.str "astar" ∨ x = V.str "down" ∨ x = V.str "up" := by simpa using List.mem_of_getElem? hx
        rcases z with z | z | z | z | z | z <;> exact ⟨_, z⟩
      have S12 := S1.trans S2
      refine ⟨_, rfl, _, rfl, t, rs, l, rfl, hL.same S12, hlen, fun H3 d S3 hd fd => ?_⟩
      have S13 := S12.trans S3
      have rep := whr_rep (rs := rs) (onP l) hlen
      have hd0 : H2 d = none := hd
      refine ⟨2, rfl, by decide, by decide, ?_⟩
      refine for_it walk_range (fun i σ H' => ∃ (x3 x4 : Option V), σ = [some (.ref t), some (.str l), some (.ref d), x3, x4] ∧ Same H3 H') ⟨x3, x4, rfl, Same.refl _⟩ (fun _ _ _ _ _ => trivial) ?_ ?_
      · rintro i x σ _ H4 hi ⟨y3, y4, rfl, S4⟩ ⟨rfl, rfl⟩
        refine ⟨_, rfl, _, rfl, t, rs, l, rfl, hL.same (S13.trans S4), hlen, fun H5 e S5 he fe => ?_⟩
        refine ⟨_, rfl, _, _, _, _, rfl, .lst (SqL.of fe) (nats_dp _), rep, by decide, by decide, _, rfl, _, _, _, _, rfl, .lst (SqL.of (S5 _ _ (S4 _ _ fd))) (nats_dp _), rep, by decide, by decide, rfl, _, rfl, ?_⟩
        show if (!decide (V.str (PyData.list ((whr rs (onP l) rs.length).map nd)).shown = V.str (PyData.list ((whr rs (onP l) rs.length).map nd)).shown)) = true then _ else _
        rw [decide_eq_true rfl]
        show if false = true then _ else _
        refine ⟨_, rfl, .inl ⟨rfl, _, SqL.of fe⟩, e, _, _, rfl, rfl, fe, ?_, ?_⟩
        · rw [List.length_map]
          have := whr_len rs (onP l) rs.length
          exact small1000 (by omega)
        · exact ⟨_, _, rfl, same_own (S4.trans S5) (by
            cases z : H3 e with
            | none => rfl
            | some o => rw [S4 _ _ z] at he; cases he)⟩
      · rintro σ H4 ⟨y3, y4, rfl, S4⟩
        refine ⟨_, rfl, _, rfl, t, rs, l, rfl, hL.same (S13.trans S4), hlen, fun H5 e S5 he fe => ?_⟩
        refine ⟨_, _, _, _, rfl, .lst (SqL.of fe) (nats_dp _), rep, by decide, by decide, _, rfl, _, _, _, _, rfl, .lst (SqL.of (S5 _ _ (S4 _ _ fd))) (nats_dp _), rep, by decide, by decide, rfl, _, rfl, ?_⟩
        show if (!decide (V.str (PyData.list ((whr rs (onP l) rs.length).map nd)).shown = V.str (PyData.list ((whr rs (onP l) rs.length).map nd)).shown)) = true then _ else _
        rw [decide_eq_true rfl]
        show if false = true then _ else _
        exact ⟨_, _, _, _, rfl, S2.trans (S3.trans (S4.trans S5))⟩
    · rintro σ H2 ⟨x1, x2, x3, x4, rfl, S2⟩
      exact k _ (S1.trans S2)
def engines : List Str := ["port", "star"]
def dialOf (e : Str) : Str := if e = "port" then "aport" else "astar"
def spDial (K : PySem.W.Frag) : Sp := fun vs H Q _ => ∃ e : Str, vs = [.str e] ∧ e ∈ engines ∧ Q (.str (dialOf e)) H
theorem ok_dial (T : Txt w K mg) : FnOk P w K mg base CX0 1 T.a_dial_of T.d_dial_of ["engine"] (spDial K) := by
  refine T.F_dial_of.ok sc_dial_of (fun vs H Q E h => ?_) (fun cdv A outer s H vs Q E hr h => ?_)
  · obtain ⟨e, rfl, _⟩ := h
    rfl
  · obtain ⟨e, rfl, he, k⟩ := h
    refine ⟨_, (pss_one (ps_ret (pe_ix ix_kdict (pe_glob (v := .ref T.D_DIALS) (by rfl) T.c_DIALS rfl) (pv 0) (fun _ _ => rfl)))), ?_⟩
    have he2 : e = "port" ∨ e = "star" := by simpa [engines] using he
    rcases he2 with rfl | rfl
    · exact ⟨_, rfl, T.D_DIALS, _, _, rfl, rfl, T.kd_DIALS ("port", .str "aport") (by simp), k⟩
    · exact ⟨_, rfl, T.D_DIALS, _, _, rfl, rfl, T.kd_DIALS ("star", .str "astar") (by simp), k⟩

def sentOf (l : Str) : Str := if l = "port" ∨ l = "star" ∨ l = "down" then "bridge" else "room"
def spSent (K : PySem.W.Frag) : Sp := fun vs H Q _ => ∃ l : Str, vs = [.str l] ∧ l ∈ lines6 ∧ Q (.str (sentOf l)) H
theorem ok_sent (T : Txt w K mg) : FnOk P w K mg base CX0 1 T.a_sent_from T.d_sent_from ["line"] (spSent K) := by
  refine T.F_sent_from.ok sc_sent_from (fun vs H Q E h => ?_) (fun cdv A outer s H vs Q E hr h => ?_)
  · obtain ⟨l, rfl, _⟩ := h
    rfl
  · obtain ⟨l, rfl, hl, k⟩ := h
    refine ⟨_, (pss_one (ps_ret (pe_ix ix_kdict (pe_glob (v := .ref T.D_SENDERS) (by rfl) T.c_SENDERS rfl) (pv 0) (fun _ _ => rfl)))), ?_⟩
    have l6 : l = "port" ∨ l = "star" ∨ l = "down" ∨ l = "aport" ∨ l = "astar" ∨ l = "up" := by simpa [lines6] using hl
    rcases l6 with rfl | rfl | rfl | rfl | rfl | rfl
    · exact ⟨_, rfl, T.D_SENDERS, _, _, rfl, rfl, T.kd_SENDERS ("port", .str "bridge") (by simp), k⟩
    · exact ⟨_, rfl, T.D_SENDERS, _, _, rfl, rfl, T.kd_SENDERS ("star", .str "bridge") (by simp), k⟩
    · exact ⟨_, rfl, T.D_SENDERS, _, _, rfl, rfl, T.kd_SENDERS ("down", .str "bridge") (by simp), k⟩
    · exact ⟨_, rfl, T.D_SENDERS, _, _, rfl, rfl, T.kd_SENDERS ("aport", .str "room") (by simp), k⟩
    · exact ⟨_, rfl, T.D_SENDERS, _, _, rfl, rfl, T.kd_SENDERS ("astar", .str "room") (by simp), k⟩
    · exact ⟨_, rfl, T.D_SENDERS, _, _, rfl, rfl, T.kd_SENDERS ("up", .str "room") (by simp), k⟩
theorem eqv_rep {d : PyData} {k n : Nat} (h : RepOk d k n) : PyData.eqv d d = true := PySem.SeqAt.eqv_refl d h.cl
def spNamed (K : PySem.W.Frag) : Sp := fun vs H Q _ => ∃ (t : Addr) (rs : List Row), vs = [.ref t] ∧ LogAt K H t rs ∧ (∀ r ∈ rs, r.Ok2) ∧ Fit rs ∧ ∀ H', Same H H' → Q (.bl true) H'
theorem ok_named (T : Txt w K mg) : FnOk P w K mg base CX0 6 T.a_named T.d_named ["_law_book"] (spNamed K) := by
  have G_is_row := ok_is_row (P := P) (base := base) T
  have G_row_of := ok_row_of (P := P) (base := base) T
  have G_sent_from := ok_sent (P := P) (base := base) T
  have G_dial_of := ok_dial (P := P) (base := base) T
  have G_is_log := ok_is_log (P := P) (base := base) T
  have G_log_of := ok_log_of (P := P) (base := base) T
  refine T.F_named.ok sc_named (fun vs H Q E h => ?_) (fun cdv A outer s H vs Q E hr h => ?_)
  · obtain ⟨t, rs, rfl, _⟩ := h
    rfl
  · obtain ⟨t, rs, rfl, hL, oks, fit, k⟩ := h
    obtain ⟨as, hT, hR⟩ := id hL
    have hlen := fit.2
    have hr_is_log := hr
    have hr_log_of := hr
    have hr_is_row := hr.mono (show 4 ≤ 5 by decide)
    have hr_row_of := hr_is_row
    have hr_sent_from := hr.mono (show 1 ≤ 5 by decide)
    have hr_dial_of := hr_sent_from
    refine ⟨_, (pss_cons (ps_for PassesOwn.never rfl (k_piT K (pv 0)) (pg_name (i := 1) sc_named.nd rfl (by first | exact Or.inl rfl | exact Or.inr rfl)) (pss_one (ps_if (PW.pt (pw_or (pt_cmpR op_notBl (pe_callK0 G_is_row hr_is_row (by rfl) T.g_is_row T.F_is_row.kp T.kb0_is_row pass0 (pk_cons (pv 1) pk_nil)) pe_bl (nomark _)) (pw_or1 (pt_cmpR (k_neD K hr.units) (pe_callK0 G_row_of hr_row_of (by rfl) T.g_row_of T.F_row_of.kp T.kb0_row_of pass0 (pk_cons (pe_callTy (k_listOf K) (by rfl) T.z_list (by decide +kernel) (pa_cons (pv 1) pa_nil)) pk_nil)) (pv 1) (nomark _))))) (pss_one (ps_ret pe_bl)) pss_nil)))
  (pss_cons (ps_setLc (i := 2) (own := [("_law_bell", 3)]) rfl sc_named.nd rfl rfl (sw_true rfl rfl rfl (by decide +kernel)) (k_piT K (pe_tup (pa_cons pe_str (pa_cons pe_str (pa_cons pe_str pa_nil))))) (blkOk_by (own := [("_law_bell", 3)]) (N := ["_law_book", "_law_one", "_law_houses", "_law_bell"]) (sc := defScope s_named) (by decide +kernel)) (fun _ _ _ _ _ => (pg_name (i := 3) sc_named.nd rfl (by first | exact Or.inl rfl | exact Or.inr rfl))) (fun _ _ _ _ _ => pts_nil) (fun _ _ _ _ _ => (pe_callK0 G_sent_from hr_sent_from (by rfl) T.g_sent_from T.F_sent_from.kp T.kb0_sent_from pass0 (pk_cons (pv 3) pk_nil))))
  (pss_cons (ps_if (PW.pt (pw_or (pt_cmpR (k_neD K hr.units) (pv 2) (pe_lst (pa_cons pe_str (pa_cons pe_str (pa_cons pe_str pa_nil)))) (nomark _)) (pw_or1 (pt_cmpR op_ne (pe_callK0 G_dial_of hr_dial_of (by rfl) T.g_dial_of T.F_dial_of.kp T.kb0_dial_of pass0 (pk_cons pe_str pk_nil)) pe_str (nomark _))))) (pss_one (ps_ret pe_bl)) pss_nil)
  (pss_one (ps_ret (pe_and (pe_cmpR op_isBl (pe_callK0 G_is_log hr_is_log (by rfl) T.g_is_log T.F_is_log.kp T.kb0_is_log pass0 (pk_cons (pv 0) pk_nil)) pe_bl (nomark _)) (pe_one (pe_cmpR (k_eqD K hr.units) (pe_callK0 G_log_of hr_log_of (by rfl) T.g_log_of T.F_log_of.kp T.kb0_log_of pass0 (pk_cons (pv 0) pk_nil)) (pv 0) (nomark _))))))))), ?_⟩
    refine ⟨_, rfl, t, rfl, ⟨_, hT⟩, ?_⟩
    refine for_it walk_tup (fun i σ H' => ∃ (x1 x2 x3 : Option V), σ = [some (.ref t), x1, x2, x3] ∧ Same H H') ⟨none, none, none, rfl, Same.refl _⟩ (fun i σ H' _ ⟨_, _, _, _, q⟩ => same_seqT q hT) ?_ ?_
    · rintro i x σ _ H2 hi ⟨x1, x2, x3, rfl, S2⟩ ⟨rfl, hx⟩
      obtain ⟨a, ha, rfl⟩ : ∃ a, as[i]? = some a ∧ x = V.ref a := by
        have hx : (as.map V.ref)[i]? = some x := hx
        rw [List.getElem?_map] at hx
        cases z : as[i]? with
        | none => rw [z] at hx; cases hx
        | some a => rw [z] at hx; exact ⟨a, rfl, (Option.some.inj hx).symm⟩
      obtain ⟨r, hr1, hr2⟩ := hR.get' ha
      have okr := oks r (List.mem_of_getElem? hr1)
      refine ⟨_, rfl, a, r, rfl, same_seqT S2 hr2, okr, fun H3 S3 => ?_⟩
      refine ⟨_, _, rfl, rfl, _, rfl, ?_⟩
      show if false = true then _ else _
      refine ⟨_, rfl, a, _, rfl, .inr (same_seqT (S2.trans S3) hr2), fun l hl => ?_⟩
      generalize hX : upd H3 l _ = H4
      obtain ⟨S4, f4⟩ := alloc hl hX
      clear hX
      refine ⟨l, r, rfl, .inl (SqL.of f4), okr, fun H5 b S5 rowb => ?_⟩
      have rep := okr.ok.rep
      refine ⟨_, rfl, r.d, r.d, RowAt.dp rowb, RowAt.dp (same_seqT ((S2.trans S3).trans (S4.trans S5)) hr2), rep.shaped (by decide), rep.shaped (by decide), _, rfl, ?_⟩
      rw [eqv_rep rep]
      show if false = true then _ else _
      exact ⟨_, _, _, rfl, (S2.trans S3).trans (S4.trans S5)⟩
    · rintro σ H2 ⟨x1, x2, x3, rfl, S2⟩
      refine ⟨(by show 3 ≤ sizeLine; decide), fun u hu => ?_⟩
      generalize hX : upd H2 u _ = H3
      obtain ⟨S3, f3⟩ := alloc hu hX
      clear hX
      refine ⟨u, rfl, ⟨_, SqT.of f3⟩, fun D hD => ?_⟩
      refine lc_it (walk_tup (xs := [V.str "up", V.str "port", V.str "astar"])) (fun i H' => Same H3 H' ∧ H' D = some (.lst (([V.str "room", V.str "bridge", V.str "room"]).take i))) ⟨same_new (Same.refl _) hD, upd_same⟩ (fun i H' _ q => SqT.of (q.1 _ _ f3)) ?_ ?_
      · rintro i x H4 H5 hi ⟨S4, e4⟩ ⟨rfl, hx⟩
        have hi3 : i < 3 := hi
        rcases (show i = 0 ∨ i = 1 ∨ i = 2 by omega) with rfl | rfl | rfl
        · obtain rfl : x = V.str "up" := (Option.some.inj hx).symm
          exact ⟨rfl, _, rfl, "up", rfl, by simp [lines6], _, e4, by decide, same_own S4 hD, upd_same⟩
        · obtain rfl : x = V.str "port" := (Option.some.inj hx).symm
          exact ⟨rfl, _, rfl, "port", rfl, by simp [lines6], _, e4, by decide, same_own S4 hD, upd_same⟩
        · obtain rfl : x = V.str "astar" := (Option.some.inj hx).symm
          exact ⟨rfl, _, rfl, "astar", rfl, by simp [lines6], _, e4, by decide, same_own S4 hD, upd_same⟩
      · rintro H4 ⟨S4, e4⟩
        have e4 : H4 D = some (.lst [V.str "room", V.str "bridge", V.str "room"]) := e4
        refine ⟨_, rfl, (by show 3 ≤ sizeLine; decide), fun l hl => ?_⟩
        generalize hX : upd H4 l _ = H5
        obtain ⟨S5, f5⟩ := alloc hl hX
        clear hX
        refine ⟨.list [.str "room", .str "bridge", .str "room"], .list [.str "room", .str "bridge", .str "room"], .lst (SqL.of (S5 _ _ e4)) (.cons (.str _) (.cons (.str _) (.cons (.str _) .nil))), .lst (SqL.of f5) (.cons (.str _) (.cons (.str _) (.cons (.str _) .nil))), by decide +kernel, by decide +kernel, _, rfl, ?_⟩
        rw [show PyData.eqv (.list [.str "room", .str "bridge", .str "room"]) (.list [.str "room", .str "bridge", .str "room"]) = true by decide +kernel]
        show if false = true then _ else _
        refine ⟨"port", rfl, by simp [engines], rfl, _, rfl, ?_⟩
        show if (!decide (V.str (dialOf "port") = V.str "aport")) = true then _ else _
        rw [show (!decide (V.str (dialOf "port") = V.str "aport")) = false by decide +kernel]
        show if false = true then _ else _
        have S5' := (S2.trans S3).trans (S4.trans S5)
        refine ⟨_, rfl, t, rs, rfl, hL.same S5', oks, fun H6 b S6 hb => ?_⟩
        obtain rfl : b = true := hb.mpr fit
        refine ⟨_, _, rfl, rfl, _, rfl, ?_⟩
        show if true = true then _ else _
        refine ⟨_, rfl, t, as, rs, rfl, LogAt.book (same_seqT (S5'.trans S6) hT) (hR.same (S5'.trans S6)), oks, fit, fun H7 b S7 hb => ?_⟩
        have rep := log_rep (fun r hr => (oks r hr).ok) (show rs.length ≤ 41 by omega)
        refine ⟨_, rfl, _, _, hb.dp, (hL.same ((S5'.trans S6).trans S7)).dp, rep.shaped (by decide), rep.shaped (by decide), ?_⟩
        rw [eqv_rep rep]
        exact k _ ((S5'.trans S6).trans S7)
theorem whr_all {rs : List Row} (h : ∀ r ∈ rs, r.Ok) : whr rs (inP 0 99999) rs.length = List.range rs.length := by
  unfold whr
  rw [List.filter_eq_self]
  intro i hi
  have hi := List.mem_range.mp hi
  rw [whr_at (List.getElem?_eq_getElem hi)]
  have ok := h _ (List.getElem_mem hi)
  show (decide _ && decide _) = true
  rw [decide_eq_true ok.m0, decide_eq_true ok.m1]
  rfl
theorem rg_nat (n : Nat) : rgV 0 (n : Int) = (List.range n).map nv := by
  unfold rgV
  rw [Int.sub_zero, Int.toNat_natCast]
  refine List.map_congr_left fun i _ => ?_
  show V.int _ = V.int _
  rw [Int.zero_add]
def spLaw (K : PySem.W.Frag) : Sp := fun vs H Q _ => ∃ (a : Addr) (ns : List Int), vs = [.ref a] ∧ SqL K H a (ns.map V.int) ∧ ns.length ≤ 63 ∧ ∀ H', Q (.bl true) H'
theorem law_in (K : PySem.W.Frag) (H : Hp) (a : Addr) (ns : List Int) (h1 : ns.length ≤ 63) (_ : ∀ k ∈ ns, Builtin.Int.intBits k ≤ 1048576) (_ : Only H) (h2 : SqL K H a (ns.map V.int)) : spLaw K [.ref a] H (fun v _ => v = .bl true) fun _ _ _ => False :=
  ⟨a, ns, rfl, h2, h1, fun _ => rfl⟩
theorem cut_all (xs : List V) (i : Nat) (h : xs.length ≤ i) : cutV xs none (some (i : Int)) = xs := by
  unfold cutV
  rw [HT.sIx_none, HT.sIx_nat, List.drop_zero, Nat.min_eq_right h, Nat.sub_zero, List.take_length]
theorem ok_law (T : Txt w K mg) : GOk P w K mg base CX0 7 T.a_law T.d_law ["_law_script"] (spLaw K) := by
  have G_log := ok_log (P := P) (base := base) T
  have G_lines_right := ok_lines_right (P := P) (base := base) T
  have G_named := ok_named (P := P) (base := base) T
  have G_minute := ok_minute (P := P) (base := base) T
  have G_in := ok_in (P := P) (base := base) T
  have G_rows_between := ok_rows_between (P := P) (base := base) T
  refine GOk.body T.F_law sc_law (fun vs H Q E h => ?_) (fun cdv A outer s H vs Q E hr hG h => ?_)
  · obtain ⟨a, ns, rfl, _⟩ := h
    rfl
  · obtain ⟨a, ns, rfl, hS, hl, k⟩ := h
    have hr_log := hr.mono (show 3 ≤ 6 by decide)
    have hr_named := hr
    have hr_lines_right := hr.mono (show 2 ≤ 6 by decide)
    have hr_minute := hr_lines_right
    have hr_in := hr.mono (show 1 ≤ 6 by decide)
    have hr_rows_between := hr_in
    refine ⟨_, (pss_cons (ps_set (i := 1) sc_law.nd rfl (by first | exact Or.inl rfl | exact Or.inr rfl) (pe_lst (pa_cons (pe_callTy (k_listOf K) (by rfl) T.z_list (by decide +kernel) (pa_cons (pe_slice (k_slL K) (pv 0) po_none (po_some pe_int)) pa_nil)) (pa_cons pe_int (pa_cons pe_int pa_nil)))))
  (pss_cons (ps_for PassesOwn.never rfl (pi_range1 (by rfl) T.z_range (pa_cons pe_int pa_nil)) (pg_name (i := 2) sc_law.nd rfl (by first | exact Or.inl rfl | exact Or.inr rfl)) (pss_cons (ps_set (i := 3) sc_law.nd rfl (by first | exact Or.inl rfl | exact Or.inr rfl) (pe_call G_log hr_log (by rfl) T.g_log T.F_log.kp T.b_log .nil pass0 (pa_cons (pv 1) (pa_cons pe_int pa_nil))))
  (pss_cons (ps_set (i := 4) sc_law.nd rfl (by first | exact Or.inl rfl | exact Or.inr rfl) (pe_callB (k_repr K hG hr.units) (by rfl) T.z_repr (by decide +kernel) (pa_cons (pv 3) pa_nil)))
  (pss_cons (ps_if (PW.pt (pw_or (pt_not (pt_val (pe_callG G_lines_right hr_lines_right hG (by rfl) T.g_lines_right T.F_lines_right.kp T.b_lines_right .nil pass0 (pa_cons (pv 3) pa_nil)))) (pw_or1 (pt_not (pt_val (pe_call G_named hr_named (by rfl) T.g_named T.F_named.kp T.b_named .nil pass0 (pa_cons (pv 3) pa_nil))))))) (pss_one (ps_ret pe_bl)) pss_nil)
  (pss_cons (ps_for PassesOwn.never rfl (pi_range1 (by rfl) T.z_range (pa_cons pe_int pa_nil)) (pg_name (i := 5) sc_law.nd rfl (by first | exact Or.inl rfl | exact Or.inr rfl)) (pss_cons (ps_set (i := 6) sc_law.nd rfl (by first | exact Or.inl rfl | exact Or.inr rfl) (pe_call G_minute hr_minute (by rfl) T.g_minute T.F_minute.kp T.b_minute .nil pass0 (pa_cons (pv 1) (pa_cons (pv 3) pa_nil))))
  (pss_cons (ps_set (i := 7) sc_law.nd rfl (by first | exact Or.inl rfl | exact Or.inr rfl) (pe_call G_minute hr_minute (by rfl) T.g_minute T.F_minute.kp T.b_minute .nil pass0 (pa_cons (pv 1) (pa_cons (pv 3) pa_nil))))
  (pss_cons (ps_set (i := 8) sc_law.nd rfl (by first | exact Or.inl rfl | exact Or.inr rfl) (pe_callB (k_repr K hG hr.units) (by rfl) T.z_repr (by decide +kernel) (pa_cons (pe_call G_in hr_in (by rfl) T.g_in T.F_in.kp T.b_in .nil pass0 (pa_cons (pv 3) (pa_cons (pv 6) (pa_cons (pv 7) pa_nil)))) pa_nil)))
  (pss_cons (ps_set (i := 9) sc_law.nd rfl (by first | exact Or.inl rfl | exact Or.inr rfl) (pe_call G_rows_between hr_rows_between (by rfl) T.g_rows_between T.F_rows_between.kp T.b3_rows_between T.v3_rows_between pass0 (pa_cons (pv 3) (pa_cons (pv 6) (pa_cons (pv 7) pa_nil)))))
  (pss_cons (ps_if (pt_cmpR op_ne (pe_callB (k_repr K hG hr.units) (by rfl) T.z_repr (by decide +kernel) (pa_cons (pv 9) pa_nil)) (pv 8) (nomark _)) (pss_one (ps_ret pe_bl)) pss_nil)
  (pss_cons (ps_expr (pe_bm0 PySem.F.plainAttrs_list PySem.F.slot_list_clear PySem.F.type_list_clear mt_clear (pv 9)))
  (pss_cons (ps_if (pt_cmpR op_ne (pe_callB (k_repr K hG hr.units) (by rfl) T.z_repr (by decide +kernel) (pa_cons (pe_callK0 G_rows_between hr_rows_between (by rfl) T.g_rows_between T.F_rows_between.kp T.kb2_rows_between pass0 (pk_cons (pv 7) (pk_cons (pv 3) (pk_cons (pv 6) pk_nil)))) pa_nil)) (pv 8) (nomark _)) (pss_one (ps_ret pe_bl)) pss_nil)
  (pss_cons (ps_if (pt_cmpR op_ne (pe_callB (k_repr K hG hr.units) (by rfl) T.z_repr (by decide +kernel) (pa_cons (pe_callK G_rows_between hr_rows_between (by rfl) T.g_rows_between T.F_rows_between.kp T.kb1_rows_between pass0 (pa_cons (pv 3) pa_nil) (pk_cons (pv 7) pk_nil)) pa_nil)) (pe_callB (k_repr K hG hr.units) (by rfl) T.z_repr (by decide +kernel) (pa_cons (pe_call G_in hr_in (by rfl) T.g_in T.F_in.kp T.b_in .nil pass0 (pa_cons (pv 3) (pa_cons pe_int (pa_cons (pv 7) pa_nil)))) pa_nil)) (nomark _)) (pss_one (ps_ret pe_bl)) pss_nil)
  (pss_one (ps_if (pt_cmpR op_ne (pe_callB (k_repr K hG hr.units) (by rfl) T.z_repr (by decide +kernel) (pa_cons (pe_callK G_rows_between hr_rows_between (by rfl) T.g_rows_between T.F_rows_between.kp T.kb0_rows_between pass0 (pa_cons (pv 3) pa_nil) (pk_cons (pv 6) pk_nil)) pa_nil)) (pe_callB (k_repr K hG hr.units) (by rfl) T.z_repr (by decide +kernel) (pa_cons (pe_call G_in hr_in (by rfl) T.g_in T.F_in.kp T.b_in .nil pass0 (pa_cons (pv 3) (pa_cons (pv 6) (pa_cons pe_int pa_nil)))) pa_nil)) (nomark _)) (pss_one (ps_ret pe_bl)) pss_nil)))))))))))
  (pss_one (ps_if (PW.pt (pw_or (pt_cmpR (k_neD K hr.units) (pe_call G_rows_between hr_rows_between (by rfl) T.g_rows_between T.F_rows_between.kp T.b1_rows_between T.v1_rows_between pass0 (pa_cons (pv 3) pa_nil)) (pe_listRg rfl (by rfl) T.z_list (prg_1 (by rfl) T.z_range (pe_callB (k_len K) (by rfl) T.z_len (by decide +kernel) (pa_cons (pv 3) pa_nil)))) (nomark _)) (pw_or1 (pt_cmpR op_ne (pe_callB (k_repr K hG hr.units) (by rfl) T.z_repr (by decide +kernel) (pa_cons (pv 3) pa_nil)) (pv 4) (nomark _))))) (pss_one (ps_ret pe_bl)) pss_nil)))))))
  (pss_one (ps_ret pe_bl)))), ?_⟩
    refine ⟨_, rfl, _, rfl, a, _, rfl, hS, fun c0 hc0 => ?_⟩
    generalize hX : upd H c0 _ = H1
    obtain ⟨S1, f1⟩ := alloc hc0 hX
    clear hX
    refine ⟨c0, _, rfl, .inl (SqL.of f1), fun c hc => ?_⟩
    generalize hX : upd H1 c _ = H2
    obtain ⟨S2, f2⟩ := alloc hc hX
    clear hX
    refine ⟨(by show 3 ≤ sizeLine; decide), fun p hp0 => ?_⟩
    generalize hX : upd H2 p _ = H3
    obtain ⟨S3, f3⟩ := alloc hp0 hX
    clear hX
    rw [show ((63 : Int)) = ((63 : Nat) : Int) from rfl, cut_all _ _ (by rw [List.length_map]; exact hl)] at f2
    have hp : PenAt H3 p c 0 := ⟨0, 0, f3, Int.le_refl _, Int.le_refl _, Int.le_refl _⟩
    have hc : Cells K H3 p c := ⟨ne_of_none f2 hp0, ns, SqL.of (S3 _ _ f2), hl⟩
    refine ⟨2, rfl, by decide, by decide, ?_⟩
    refine for_it walk_range (fun i σ H' => ∃ (x2 x3 x4 x5 x6 x7 x8 x9 : Option V), σ = [some (.ref a), some (.ref p), x2, x3, x4, x5, x6, x7, x8, x9] ∧ PenAt H' p c (1100 * i) ∧ Cells K H' p c)
      ⟨none, none, none, none, none, none, none, none, rfl, hp, hc⟩ (fun _ _ _ _ _ => trivial) ?_ ?_
    · rintro i x σ _ H4 hi ⟨x2, x3, x4, x5, x6, x7, x8, x9, rfl, hp2, hc2⟩ ⟨rfl, rfl⟩
      have hi4 : i < 2 := hi
      refine ⟨_, rfl, p, c, _, 40, rfl, hp2, hc2, by omega, by decide, by decide, fun H5 t rs g5 ht hL hlen oks ris => ?_⟩
      have oks' : ∀ r ∈ rs, r.Ok := fun r hr => (oks r hr).ok
      have hlen1 : rs.length ≤ 41 := by omega
      have rep := log_rep oks' hlen1
      refine ⟨_, rfl, _, _, _, _, rfl, hL.dp, rep, by decide, by decide, ?_⟩
      refine ⟨_, rfl, t, rs, rfl, hL, hlen1, fun H6 S6 => ?_⟩
      refine ⟨_, rfl, ?_⟩
      show if false = true then _ else _
      refine ⟨_, rfl, t, rs, rfl, hL.same S6, oks, ⟨ris, hlen⟩, fun H7 S7 => ?_⟩
      refine ⟨_, rfl, ?_⟩
      show if false = true then _ else _
      have G7 := (g5.same (S6.trans S7))
      have L7 := hL.same (S6.trans S7)
      refine ⟨8, rfl, by decide, by decide, ?_⟩
      refine for_it walk_range (fun j σ H' => ∃ (x5 x6 x7 x8 x9 : Option V), σ = [some (.ref a), some (.ref p), some (.int (0 + (i : Nat))), some (.ref t), some (.str (PyData.tuple (rs.map Row.d)).shown), x5, x6, x7, x8, x9] ∧ Go K p c H7 (1100 * i + 1000 + 6 * j) H' ∧ LogAt K H' t rs)
        ⟨x5, x6, x7, x8, x9, rfl, G7.self.mono (by omega), L7⟩ (fun _ _ _ _ _ => trivial) ?_ ?_
      · rintro j x σ _ H8 hj ⟨y5, y6, y7, y8, y9, rfl, g8, L8⟩ ⟨rfl, rfl⟩
        have hj8 : j < 8 := hj
        refine ⟨_, rfl, _, rfl, p, c, t, _, rs, rfl, g8.pen, g8.cel, by omega, L8, hlen1, fun H9 low g9 => ?_⟩
        have L9 := L8.go g8.pen g9.but
        refine ⟨_, rfl, _, rfl, p, c, t, _, rs, rfl, g9.pen, g9.cel, by omega, L9, hlen1, fun H10 high g10 => ?_⟩
        have L10 := L9.go g9.pen g10.but
        have rep1 := whr_rep (rs := rs) (inP low high) hlen1
        refine ⟨_, rfl, _, rfl, _, rfl, t, rs, low, high, rfl, L10, hlen1, fun H11 d S11 hd fd => ?_⟩
        refine ⟨_, _, _, _, rfl, .lst (SqL.of fd) (nats_dp _), rep1, by decide, by decide, ?_⟩
        refine ⟨_, rfl, _, rfl, _, rfl, t, rs, low, high, rfl, L10.same S11, hlen1, fun H12 e S12 he fe => ?_⟩
        refine ⟨_, rfl, _, _, _, _, rfl, .lst (SqL.of fe) (nats_dp _), rep1, by decide, by decide, _, rfl, rfl, _, rfl, ?_⟩
        rw [decide_eq_true rfl]
        show if false = true then _ else _
        refine ⟨_, rfl, .inl ⟨rfl, _, SqL.of fe⟩, e, _, rfl, rfl, fe, ?_⟩
        generalize hX : upd H12 e _ = H13
        have he10 : H10 e = none := by
          cases z : H10 e with
          | none => rfl
          | some o => rw [S11 _ _ z] at he; cases he
        obtain ⟨S13, f13⟩ := owned (S11.trans S12) he10 hX
        clear hX
        refine ⟨_, rfl, _, rfl, _, rfl, t, rs, low, high, rfl, L10.same S13, hlen1, fun H14 e14 S14 he14 fe14 => ?_⟩
        refine ⟨_, _, _, _, rfl, .lst (SqL.of fe14) (nats_dp _), rep1, by decide, by decide, _, rfl, rfl, _, rfl, ?_⟩
        rw [decide_eq_true rfl]
        show if false = true then _ else _
        have S14' := S13.trans S14
        have rep2 := whr_rep (rs := rs) (inP 0 high) hlen1
        refine ⟨_, rfl, _, rfl, t, rs, 0, high, rfl, L10.same S14', hlen1, fun H15 e15 S15 he15 fe15 => ?_⟩
        have S15' := S14'.trans S15
        refine ⟨_, _, _, _, rfl, .lst (SqL.of fe15) (nats_dp _), rep2, by decide, by decide, ?_⟩
        refine ⟨_, rfl, _, rfl, t, rs, 0, high, rfl, L10.same S15', hlen1, fun H16 e16 S16 he16 fe16 => ?_⟩
        have S16' := S15'.trans S16
        refine ⟨_, _, _, _, rfl, .lst (SqL.of fe16) (nats_dp _), rep2, by decide, by decide, rfl, _, rfl, ?_⟩
        rw [decide_eq_true rfl]
        show if false = true then _ else _
        have rep3 := whr_rep (rs := rs) (inP low 99999) hlen1
        refine ⟨_, rfl, _, rfl, t, rs, low, 99999, rfl, L10.same S16', hlen1, fun H17 e17 S17 he17 fe17 => ?_⟩
        have S17' := S16'.trans S17
        refine ⟨_, _, _, _, rfl, .lst (SqL.of fe17) (nats_dp _), rep3, by decide, by decide, ?_⟩
        refine ⟨_, rfl, _, rfl, t, rs, low, 99999, rfl, L10.same S17', hlen1, fun H18 e18 S18 he18 fe18 => ?_⟩
        have S18' := S17'.trans S18
        refine ⟨_, _, _, _, rfl, .lst (SqL.of fe18) (nats_dp _), rep3, by decide, by decide, rfl, _, rfl, ?_⟩
        rw [decide_eq_true rfl]
        show if false = true then _ else _
        exact ⟨_, _, _, _, _, rfl, ((g8.trans (g9.trans g10)).same S18').mono (by omega), L10.same S18'⟩
      · rintro σ H8 ⟨y5, y6, y7, y8, y9, rfl, g8, L8⟩
        refine ⟨_, rfl, t, rs, 0, 99999, rfl, L8, hlen1, fun H9 e S9 he fe => ?_⟩
        obtain ⟨as, hT, hR⟩ := L8.same S9
        refine ⟨_, rfl, t, _, rfl, .inr hT, _, rfl, RgOk.of_le (by decide) (by rw [List.length_map, hR.length]; omega) (by decide) (by omega), fun q hq => ?_⟩
        rw [List.length_map, hR.length, rg_nat]
        generalize hX : upd H9 q _ = H10
        obtain ⟨S10, f10⟩ := alloc hq hX
        clear hX
        rw [whr_all oks'] at fe
        have rep1 := whr_rep (rs := rs) (inP 0 99999) hlen1
        rw [whr_all oks'] at rep1
        refine ⟨_, _, .lst (SqL.of (S10 _ _ fe)) (nats_dp _), .lst (SqL.of f10) (nats_dp _), rep1.shaped (by decide), rep1.shaped (by decide), _, rfl, ?_⟩
        rw [eqv_rep rep1]
        show if false = true then _ else _
        refine ⟨_, rfl, _, _, _, _, rfl, (L8.same (S9.trans S10)).dp, rep, by decide, by decide, _, rfl, rfl, _, rfl, ?_⟩
        rw [decide_eq_true rfl]
        show if false = true then _ else _
        have g10 := ((g5.same (S6.trans S7)).trans g8).same (S9.trans S10)
        exact ⟨_, _, _, _, _, _, _, _, rfl, g10.pen.mono (by omega), g10.cel⟩
    · rintro σ H2 ⟨x2, x3, x4, x5, x6, x7, x8, x9, rfl, hp2, hc2⟩
      exact k _
end
theorem all_mk {l : PySem.W.OpenLaw} {w : World} {K : PySem.W.Frag} {h : Heap} {mg : Str → Option Value} {fa : Addr} (X : K.In h) (G : h.Ns mainGlobals mg) (hfa : mg "law" = some (.ref fa))
    {f0 : Addr} {od0 an0 : Option Addr} {sl0 : Array (Option Value)} {oc0 kV0 dc0 pm0 cd0 ct0 : Value} (a0 : PySem.W.nsIn K mainGlobals "is_whole" = some (some (.ref f0))) (l0 : K.lookup f0 = some ⟨oc0, od0, .func (PySem.W.fnOf "is_whole" "is_whole" (defArgs s_is_whole) (defBody s_is_whole) (defScope s_is_whole) .none kV0 dc0 pm0 an0 cd0 ct0), sl0⟩) (c0 : PySem.W.codeIn K cd0 "is_whole" = true) (k0 : PySem.W.keepIn K (.ref f0) = true)
    {f1 : Addr} {od1 an1 : Option Addr} {sl1 : Array (Option Value)} {oc1 kV1 dc1 pm1 cd1 ct1 : Value} (a1 : PySem.W.nsIn K mainGlobals "is_minute" = some (some (.ref f1))) (l1 : K.lookup f1 = some ⟨oc1, od1, .func (PySem.W.fnOf "is_minute" "is_minute" (defArgs s_is_minute) (defBody s_is_minute) (defScope s_is_minute) .none kV1 dc1 pm1 an1 cd1 ct1), sl1⟩) (c1 : PySem.W.codeIn K cd1 "is_minute" = true) (k1 : PySem.W.keepIn K (.ref f1) = true)
    {f2 : Addr} {od2 an2 : Option Addr} {sl2 : Array (Option Value)} {oc2 kV2 dc2 pm2 cd2 ct2 : Value} (a2 : PySem.W.nsIn K mainGlobals "is_order" = some (some (.ref f2))) (l2 : K.lookup f2 = some ⟨oc2, od2, .func (PySem.W.fnOf "is_order" "is_order" (defArgs s_is_order) (defBody s_is_order) (defScope s_is_order) .none kV2 dc2 pm2 an2 cd2 ct2), sl2⟩) (c2 : PySem.W.codeIn K cd2 "is_order" = true) (k2 : PySem.W.keepIn K (.ref f2) = true)
    {f3 : Addr} {od3 an3 : Option Addr} {sl3 : Array (Option Value)} {oc3 kV3 dc3 pm3 cd3 ct3 : Value} (a3 : PySem.W.nsIn K mainGlobals "is_name" = some (some (.ref f3))) (l3 : K.lookup f3 = some ⟨oc3, od3, .func (PySem.W.fnOf "is_name" "is_name" (defArgs s_is_name) (defBody s_is_name) (defScope s_is_name) .none kV3 dc3 pm3 an3 cd3 ct3), sl3⟩) (c3 : PySem.W.codeIn K cd3 "is_name" = true) (k3 : PySem.W.keepIn K (.ref f3) = true)
    {f4 : Addr} {od4 an4 : Option Addr} {sl4 : Array (Option Value)} {oc4 kV4 dc4 pm4 cd4 ct4 : Value} (a4 : PySem.W.nsIn K mainGlobals "is_row" = some (some (.ref f4))) (l4 : K.lookup f4 = some ⟨oc4, od4, .func (PySem.W.fnOf "is_row" "is_row" (defArgs s_is_row) (defBody s_is_row) (defScope s_is_row) .none kV4 dc4 pm4 an4 cd4 ct4), sl4⟩) (c4 : PySem.W.codeIn K cd4 "is_row" = true) (k4 : PySem.W.keepIn K (.ref f4) = true)
    {f5 : Addr} {od5 an5 : Option Addr} {sl5 : Array (Option Value)} {oc5 kV5 dc5 pm5 cd5 ct5 : Value} (a5 : PySem.W.nsIn K mainGlobals "makes_row" = some (some (.ref f5))) (l5 : K.lookup f5 = some ⟨oc5, od5, .func (PySem.W.fnOf "makes_row" "makes_row" (defArgs s_makes_row) (defBody s_makes_row) (defScope s_makes_row) .none kV5 dc5 pm5 an5 cd5 ct5), sl5⟩) (c5 : PySem.W.codeIn K cd5 "makes_row" = true) (k5 : PySem.W.keepIn K (.ref f5) = true)
    {f6 : Addr} {od6 an6 : Option Addr} {sl6 : Array (Option Value)} {oc6 kV6 dc6 pm6 cd6 ct6 : Value} (a6 : PySem.W.nsIn K mainGlobals "row_of" = some (some (.ref f6))) (l6 : K.lookup f6 = some ⟨oc6, od6, .func (PySem.W.fnOf "row_of" "row_of" (defArgs s_row_of) (defBody s_row_of) (defScope s_row_of) .none kV6 dc6 pm6 an6 cd6 ct6), sl6⟩) (c6 : PySem.W.codeIn K cd6 "row_of" = true) (k6 : PySem.W.keepIn K (.ref f6) = true)
    {f7 : Addr} {od7 an7 : Option Addr} {sl7 : Array (Option Value)} {oc7 kV7 dc7 pm7 cd7 ct7 : Value} (a7 : PySem.W.nsIn K mainGlobals "sent_from" = some (some (.ref f7))) (l7 : K.lookup f7 = some ⟨oc7, od7, .func (PySem.W.fnOf "sent_from" "sent_from" (defArgs s_sent_from) (defBody s_sent_from) (defScope s_sent_from) .none kV7 dc7 pm7 an7 cd7 ct7), sl7⟩) (c7 : PySem.W.codeIn K cd7 "sent_from" = true) (k7 : PySem.W.keepIn K (.ref f7) = true)
    {f8 : Addr} {od8 an8 : Option Addr} {sl8 : Array (Option Value)} {oc8 kV8 dc8 pm8 cd8 ct8 : Value} (a8 : PySem.W.nsIn K mainGlobals "dial_of" = some (some (.ref f8))) (l8 : K.lookup f8 = some ⟨oc8, od8, .func (PySem.W.fnOf "dial_of" "dial_of" (defArgs s_dial_of) (defBody s_dial_of) (defScope s_dial_of) .none kV8 dc8 pm8 an8 cd8 ct8), sl8⟩) (c8 : PySem.W.codeIn K cd8 "dial_of" = true) (k8 : PySem.W.keepIn K (.ref f8) = true)
    {f9 : Addr} {od9 an9 : Option Addr} {sl9 : Array (Option Value)} {oc9 kV9 dc9 pm9 cd9 ct9 : Value} (a9 : PySem.W.nsIn K mainGlobals "is_line" = some (some (.ref f9))) (l9 : K.lookup f9 = some ⟨oc9, od9, .func (PySem.W.fnOf "is_line" "is_line" (defArgs s_is_line) (defBody s_is_line) (defScope s_is_line) .none kV9 dc9 pm9 an9 cd9 ct9), sl9⟩) (c9 : PySem.W.codeIn K cd9 "is_line" = true) (k9 : PySem.W.keepIn K (.ref f9) = true)
    {f10 : Addr} {od10 an10 : Option Addr} {sl10 : Array (Option Value)} {oc10 kV10 dc10 pm10 cd10 ct10 : Value} (a10 : PySem.W.nsIn K mainGlobals "is_log" = some (some (.ref f10))) (l10 : K.lookup f10 = some ⟨oc10, od10, .func (PySem.W.fnOf "is_log" "is_log" (defArgs s_is_log) (defBody s_is_log) (defScope s_is_log) .none kV10 dc10 pm10 an10 cd10 ct10), sl10⟩) (c10 : PySem.W.codeIn K cd10 "is_log" = true) (k10 : PySem.W.keepIn K (.ref f10) = true)
    {f11 : Addr} {od11 an11 : Option Addr} {sl11 : Array (Option Value)} {oc11 kV11 dc11 pm11 cd11 ct11 : Value} (a11 : PySem.W.nsIn K mainGlobals "log_of" = some (some (.ref f11))) (l11 : K.lookup f11 = some ⟨oc11, od11, .func (PySem.W.fnOf "log_of" "log_of" (defArgs s_log_of) (defBody s_log_of) (defScope s_log_of) .none kV11 dc11 pm11 an11 cd11 ct11), sl11⟩) (c11 : PySem.W.codeIn K cd11 "log_of" = true) (k11 : PySem.W.keepIn K (.ref f11) = true)
    {f12 : Addr} {od12 an12 : Option Addr} {sl12 : Array (Option Value)} {oc12 kV12 dc12 pm12 cd12 ct12 : Value} (a12 : PySem.W.nsIn K mainGlobals "wrong_at" = some (some (.ref f12))) (l12 : K.lookup f12 = some ⟨oc12, od12, .func (PySem.W.fnOf "wrong_at" "wrong_at" (defArgs s_wrong_at) (defBody s_wrong_at) (defScope s_wrong_at) .none kV12 dc12 pm12 an12 cd12 ct12), sl12⟩) (c12 : PySem.W.codeIn K cd12 "wrong_at" = true) (k12 : PySem.W.keepIn K (.ref f12) = true)
    {f13 : Addr} {od13 an13 : Option Addr} {sl13 : Array (Option Value)} {oc13 kV13 dc13 pm13 cd13 ct13 : Value} (a13 : PySem.W.nsIn K mainGlobals "rows_on" = some (some (.ref f13))) (l13 : K.lookup f13 = some ⟨oc13, od13, .func (PySem.W.fnOf "rows_on" "rows_on" (defArgs s_rows_on) (defBody s_rows_on) (defScope s_rows_on) .none kV13 dc13 pm13 an13 cd13 ct13), sl13⟩) (c13 : PySem.W.codeIn K cd13 "rows_on" = true) (k13 : PySem.W.keepIn K (.ref f13) = true)
    {f14 T14 : Addr} {tc14 : Value} {td14 : Option Addr} {its14 : Array Value} {tn14 : Nat} {tsl14 : Array (Option Value)} {od14 an14 : Option Addr} {sl14 : Array (Option Value)} {oc14 kV14 dc14 pm14 cd14 ct14 : Value} (a14 : PySem.W.nsIn K mainGlobals "rows_between" = some (some (.ref f14))) (l14 : K.lookup f14 = some ⟨oc14, od14, .func (PySem.W.fnOf "rows_between" "rows_between" (defArgs s_rows_between) (defBody s_rows_between) (defScope s_rows_between) (.ref T14) kV14 dc14 pm14 an14 cd14 ct14), sl14⟩) (c14 : PySem.W.codeIn K cd14 "rows_between" = true) (k14 : PySem.W.keepIn K (.ref f14) = true) (lt14 : K.lookup T14 = some ⟨tc14, td14, .seq its14 tn14, tsl14⟩) (vt14 : Vals [V.int (0), V.int (99999)] its14.toList)
    {f15 : Addr} {od15 an15 : Option Addr} {sl15 : Array (Option Value)} {oc15 kV15 dc15 pm15 cd15 ct15 : Value} (a15 : PySem.W.nsIn K mainGlobals "_law_draw" = some (some (.ref f15))) (l15 : K.lookup f15 = some ⟨oc15, od15, .func (PySem.W.fnOf "_law_draw" "_law_draw" (defArgs s_draw) (defBody s_draw) (defScope s_draw) .none kV15 dc15 pm15 an15 cd15 ct15), sl15⟩) (c15 : PySem.W.codeIn K cd15 "_law_draw" = true) (k15 : PySem.W.keepIn K (.ref f15) = true)
    {f16 : Addr} {od16 an16 : Option Addr} {sl16 : Array (Option Value)} {oc16 kV16 dc16 pm16 cd16 ct16 : Value} (a16 : PySem.W.nsIn K mainGlobals "_law_word" = some (some (.ref f16))) (l16 : K.lookup f16 = some ⟨oc16, od16, .func (PySem.W.fnOf "_law_word" "_law_word" (defArgs s_word) (defBody s_word) (defScope s_word) .none kV16 dc16 pm16 an16 cd16 ct16), sl16⟩) (c16 : PySem.W.codeIn K cd16 "_law_word" = true) (k16 : PySem.W.keepIn K (.ref f16) = true)
    {f17 : Addr} {od17 an17 : Option Addr} {sl17 : Array (Option Value)} {oc17 kV17 dc17 pm17 cd17 ct17 : Value} (a17 : PySem.W.nsIn K mainGlobals "_law_row" = some (some (.ref f17))) (l17 : K.lookup f17 = some ⟨oc17, od17, .func (PySem.W.fnOf "_law_row" "_law_row" (defArgs s_row) (defBody s_row) (defScope s_row) .none kV17 dc17 pm17 an17 cd17 ct17), sl17⟩) (c17 : PySem.W.codeIn K cd17 "_law_row" = true) (k17 : PySem.W.keepIn K (.ref f17) = true)
    {f18 : Addr} {od18 an18 : Option Addr} {sl18 : Array (Option Value)} {oc18 kV18 dc18 pm18 cd18 ct18 : Value} (a18 : PySem.W.nsIn K mainGlobals "_law_log" = some (some (.ref f18))) (l18 : K.lookup f18 = some ⟨oc18, od18, .func (PySem.W.fnOf "_law_log" "_law_log" (defArgs s_log) (defBody s_log) (defScope s_log) .none kV18 dc18 pm18 an18 cd18 ct18), sl18⟩) (c18 : PySem.W.codeIn K cd18 "_law_log" = true) (k18 : PySem.W.keepIn K (.ref f18) = true)
    {f19 : Addr} {od19 an19 : Option Addr} {sl19 : Array (Option Value)} {oc19 kV19 dc19 pm19 cd19 ct19 : Value} (a19 : PySem.W.nsIn K mainGlobals "_law_on" = some (some (.ref f19))) (l19 : K.lookup f19 = some ⟨oc19, od19, .func (PySem.W.fnOf "_law_on" "_law_on" (defArgs s_on) (defBody s_on) (defScope s_on) .none kV19 dc19 pm19 an19 cd19 ct19), sl19⟩) (c19 : PySem.W.codeIn K cd19 "_law_on" = true) (k19 : PySem.W.keepIn K (.ref f19) = true)
    {f20 : Addr} {od20 an20 : Option Addr} {sl20 : Array (Option Value)} {oc20 kV20 dc20 pm20 cd20 ct20 : Value} (a20 : PySem.W.nsIn K mainGlobals "_law_in" = some (some (.ref f20))) (l20 : K.lookup f20 = some ⟨oc20, od20, .func (PySem.W.fnOf "_law_in" "_law_in" (defArgs s_in) (defBody s_in) (defScope s_in) .none kV20 dc20 pm20 an20 cd20 ct20), sl20⟩) (c20 : PySem.W.codeIn K cd20 "_law_in" = true) (k20 : PySem.W.keepIn K (.ref f20) = true)
    {f21 : Addr} {od21 an21 : Option Addr} {sl21 : Array (Option Value)} {oc21 kV21 dc21 pm21 cd21 ct21 : Value} (a21 : PySem.W.nsIn K mainGlobals "_law_minute" = some (some (.ref f21))) (l21 : K.lookup f21 = some ⟨oc21, od21, .func (PySem.W.fnOf "_law_minute" "_law_minute" (defArgs s_minute) (defBody s_minute) (defScope s_minute) .none kV21 dc21 pm21 an21 cd21 ct21), sl21⟩) (c21 : PySem.W.codeIn K cd21 "_law_minute" = true) (k21 : PySem.W.keepIn K (.ref f21) = true)
    {f22 : Addr} {od22 an22 : Option Addr} {sl22 : Array (Option Value)} {oc22 kV22 dc22 pm22 cd22 ct22 : Value} (a22 : PySem.W.nsIn K mainGlobals "_law_lines_right" = some (some (.ref f22))) (l22 : K.lookup f22 = some ⟨oc22, od22, .func (PySem.W.fnOf "_law_lines_right" "_law_lines_right" (defArgs s_lines_right) (defBody s_lines_right) (defScope s_lines_right) .none kV22 dc22 pm22 an22 cd22 ct22), sl22⟩) (c22 : PySem.W.codeIn K cd22 "_law_lines_right" = true) (k22 : PySem.W.keepIn K (.ref f22) = true)
    {f23 : Addr} {od23 an23 : Option Addr} {sl23 : Array (Option Value)} {oc23 kV23 dc23 pm23 cd23 ct23 : Value} (a23 : PySem.W.nsIn K mainGlobals "_law_named" = some (some (.ref f23))) (l23 : K.lookup f23 = some ⟨oc23, od23, .func (PySem.W.fnOf "_law_named" "_law_named" (defArgs s_named) (defBody s_named) (defScope s_named) .none kV23 dc23 pm23 an23 cd23 ct23), sl23⟩) (c23 : PySem.W.codeIn K cd23 "_law_named" = true) (k23 : PySem.W.keepIn K (.ref f23) = true)
    {f24 : Addr} {od24 an24 : Option Addr} {sl24 : Array (Option Value)} {oc24 kV24 dc24 pm24 cd24 ct24 : Value} (a24 : PySem.W.nsIn K mainGlobals "law" = some (some (.ref f24))) (l24 : K.lookup f24 = some ⟨oc24, od24, .func (PySem.W.fnOf "law" "law" (defArgs s_law) (defBody s_law) (defScope s_law) .none kV24 dc24 pm24 an24 cd24 ct24), sl24⟩) (c24 : PySem.W.codeIn K cd24 "law" = true) (k24 : PySem.W.keepIn K (.ref f24) = true)
    (z_abs : PySem.W.nsIn K mainGlobals "abs" = some none)
    (z_all : PySem.W.nsIn K mainGlobals "all" = some none)
    (z_bool : PySem.W.nsIn K mainGlobals "bool" = some none)
    (z_enumerate : PySem.W.nsIn K mainGlobals "enumerate" = some none)
    (z_int : PySem.W.nsIn K mainGlobals "int" = some none)
    (z_isinstance : PySem.W.nsIn K mainGlobals "isinstance" = some none)
    (z_len : PySem.W.nsIn K mainGlobals "len" = some none)
    (z_list : PySem.W.nsIn K mainGlobals "list" = some none)
    (z_min : PySem.W.nsIn K mainGlobals "min" = some none)
    (z_range : PySem.W.nsIn K mainGlobals "range" = some none)
    (z_repr : PySem.W.nsIn K mainGlobals "repr" = some none)
    (z_str : PySem.W.nsIn K mainGlobals "str" = some none)
    (z_tuple : PySem.W.nsIn K mainGlobals "tuple" = some none)
    {D_DIALS : Addr} (m_DIALS : PySem.W.nsIn K mainGlobals "DIALS" = some (some (.ref D_DIALS))) {es_DIALS : Array DictEntry} {n_DIALS : Nat} (kl_DIALS : K.lookup D_DIALS = some ⟨.type "dict", none, .dict es_DIALS n_DIALS, #[]⟩) (kk_DIALS : PySem.W.KeysLit w.params es_DIALS.toList) (ks_DIALS : (D_DIALS == sysModules) = false) {u0_DIALS : Tok} (ki0_DIALS : PySem.W.nsIn K D_DIALS "port" = some (some (.str "aport" u0_DIALS))) {u1_DIALS : Tok} (ki1_DIALS : PySem.W.nsIn K D_DIALS "star" = some (some (.str "astar" u1_DIALS)))
    {t_FULL_AHEAD : Tok} (m_FULL_AHEAD : PySem.W.nsIn K mainGlobals "FULL_AHEAD" = some (some (.int (4) t_FULL_AHEAD)))
    {t_FULL_ASTERN : Tok} (m_FULL_ASTERN : PySem.W.nsIn K mainGlobals "FULL_ASTERN" = some (some (.int (-4) t_FULL_ASTERN)))
    {t_LAST_MINUTE : Tok} (m_LAST_MINUTE : PySem.W.nsIn K mainGlobals "LAST_MINUTE" = some (some (.int (99999) t_LAST_MINUTE)))
    {t_LONGEST_NAME : Tok} (m_LONGEST_NAME : PySem.W.nsIn K mainGlobals "LONGEST_NAME" = some (some (.int (8) t_LONGEST_NAME)))
    {t_MOST_ROWS : Tok} (m_MOST_ROWS : PySem.W.nsIn K mainGlobals "MOST_ROWS" = some (some (.int (40) t_MOST_ROWS)))
    {D_SENDERS : Addr} (m_SENDERS : PySem.W.nsIn K mainGlobals "SENDERS" = some (some (.ref D_SENDERS))) {es_SENDERS : Array DictEntry} {n_SENDERS : Nat} (kl_SENDERS : K.lookup D_SENDERS = some ⟨.type "dict", none, .dict es_SENDERS n_SENDERS, #[]⟩) (kk_SENDERS : PySem.W.KeysLit w.params es_SENDERS.toList) (ks_SENDERS : (D_SENDERS == sysModules) = false) {u0_SENDERS : Tok} (ki0_SENDERS : PySem.W.nsIn K D_SENDERS "port" = some (some (.str "bridge" u0_SENDERS))) {u1_SENDERS : Tok} (ki1_SENDERS : PySem.W.nsIn K D_SENDERS "star" = some (some (.str "bridge" u1_SENDERS))) {u2_SENDERS : Tok} (ki2_SENDERS : PySem.W.nsIn K D_SENDERS "down" = some (some (.str "bridge" u2_SENDERS))) {u3_SENDERS : Tok} (ki3_SENDERS : PySem.W.nsIn K D_SENDERS "aport" = some (some (.str "room" u3_SENDERS))) {u4_SENDERS : Tok} (ki4_SENDERS : PySem.W.nsIn K D_SENDERS "astar" = some (some (.str "room" u4_SENDERS))) {u5_SENDERS : Tok} (ki5_SENDERS : PySem.W.nsIn K D_SENDERS "up" = some (some (.str "room" u5_SENDERS)))
    {D_TUBES : Addr} {td_TUBES : Option Addr} {its_TUBES : Array Value} {tn_TUBES : Nat} {tsl_TUBES : Array (Option Value)} (m_TUBES : PySem.W.nsIn K mainGlobals "TUBES" = some (some (.ref D_TUBES))) (lt_TUBES : K.lookup D_TUBES = some ⟨.type "tuple", td_TUBES, .seq its_TUBES tn_TUBES, tsl_TUBES⟩) (vv_TUBES : Vals [V.str "down", V.str "up"] its_TUBES.toList) :
    ∃ fd : FuncData, (∀ (s : Shared) (v : Value), BindsTo s fd ⟨[v], []⟩ [("_law_script", v)]) ∧ ∀ base : Heap, K.In base → base.Ns mainGlobals mg → GOk l.prog w K mg base CX0 7 fa fd ["_law_script"] (spLaw K) := by
  have e := hfa.symm.trans (PySem.W.mg_of X G a24)
  cases e
  have F0 := fun_mk (st := s_is_whole) l0 c0 k0
  have F1 := fun_mk (st := s_is_minute) l1 c1 k1
  have F2 := fun_mk (st := s_is_order) l2 c2 k2
  have F3 := fun_mk (st := s_is_name) l3 c3 k3
  have F4 := fun_mk (st := s_is_row) l4 c4 k4
  have F5 := fun_mk (st := s_makes_row) l5 c5 k5
  have F6 := fun_mk (st := s_row_of) l6 c6 k6
  have F7 := fun_mk (st := s_sent_from) l7 c7 k7
  have F8 := fun_mk (st := s_dial_of) l8 c8 k8
  have F9 := fun_mk (st := s_is_line) l9 c9 k9
  have F10 := fun_mk (st := s_is_log) l10 c10 k10
  have F11 := fun_mk (st := s_log_of) l11 c11 k11
  have F12 := fun_mk (st := s_wrong_at) l12 c12 k12
  have F13 := fun_mk (st := s_rows_on) l13 c13 k13
  have F14 := FunD_mk (x := "rows_between") (params := defArgs s_rows_between) (body := defBody s_rows_between) (scope := defScope s_rows_between) (dvs := [V.int (0), V.int (99999)]) l14 c14 k14 lt14 vt14 (by simp)
  obtain ⟨ds1_14, v1_14, b1_14⟩ := F14.binds1 (ps := ["log", "first", "last"]) 1 0 (by simp) (by simp) (fun T kV doc pm an cdv ct us its hu hi => match us, hu, its, hi with | [_], _, [_, _], _ => ⟨_, rfl, rfl⟩)
  obtain ⟨ds3_14, v3_14, b3_14⟩ := F14.binds1 (ps := ["log", "first", "last"]) 3 2 (by simp) (by simp) (fun T kV doc pm an cdv ct us its hu hi => match us, hu, its, hi with | [_, _, _], _, [_, _], _ => ⟨_, rfl, rfl⟩)
  have F15 := fun_mk (st := s_draw) l15 c15 k15
  have F16 := fun_mk (st := s_word) l16 c16 k16
  have F17 := fun_mk (st := s_row) l17 c17 k17
  have F18 := fun_mk (st := s_log) l18 c18 k18
  have F19 := fun_mk (st := s_on) l19 c19 k19
  have F20 := fun_mk (st := s_in) l20 c20 k20
  have F21 := fun_mk (st := s_minute) l21 c21 k21
  have F22 := fun_mk (st := s_lines_right) l22 c22 k22
  have F23 := fun_mk (st := s_named) l23 c23 k23
  have F24 := fun_mk (st := s_law) l24 c24 k24
  obtain ⟨it0_14, kb0_14⟩ := FunD_kb F14 (ps := ["log", "first", "last"]) (by simp) ["first"] (fun us its ws => match us, its, ws with | [p0], [_, d1], [x0] => [p0, x0, d1] | _, _, _ => []) (fun us its ws => match us, its, ws with | [p0], [_, d1], [x0] => [p0, x0, d1] | _, _, _ => [])
    (fun r1 r2 r3 => by (cases r1 with | nil => exact .nil | cons a0 r1 => (cases r1 with | nil => (cases r2 with | nil => exact .nil | cons e0 r2 => (cases r2 with | nil => exact .nil | cons e1 r2 => (cases r2 with | nil => (cases r3 with | nil => exact .nil | cons q0 r3 => (cases r3 with | nil => exact .cons a0 (.cons q0 (.cons e1 (.nil))) | cons _ _ => exact .nil)) | cons _ _ => exact .nil))) | cons _ _ => exact .nil))) (fun T kV doc pm an cdv ct us its ws hi hl => match us, its, ws, hl with | [_], [_, _], [_], _ => ⟨_, rfl, rfl⟩)
  obtain ⟨it1_14, kb1_14⟩ := FunD_kb F14 (ps := ["log", "first", "last"]) (by simp) ["last"] (fun us its ws => match us, its, ws with | [p0], [d0, _], [x0] => [p0, d0, x0] | _, _, _ => []) (fun us its ws => match us, its, ws with | [p0], [d0, _], [x0] => [p0, d0, x0] | _, _, _ => [])
    (fun r1 r2 r3 => by (cases r1 with | nil => exact .nil | cons a0 r1 => (cases r1 with | nil => (cases r2 with | nil => exact .nil | cons e0 r2 => (cases r2 with | nil => exact .nil | cons e1 r2 => (cases r2 with | nil => (cases r3 with | nil => exact .nil | cons q0 r3 => (cases r3 with | nil => exact .cons a0 (.cons e0 (.cons q0 (.nil))) | cons _ _ => exact .nil)) | cons _ _ => exact .nil))) | cons _ _ => exact .nil))) (fun T kV doc pm an cdv ct us its ws hi hl => match us, its, ws, hl with | [_], [_, _], [_], _ => ⟨_, rfl, rfl⟩)
  obtain ⟨it2_14, kb2_14⟩ := FunD_kb F14 (ps := ["log", "first", "last"]) (by simp) ["last", "log", "first"] (fun us its ws => match us, its, ws with | [], [_, _], [x0, x1, x2] => [x1, x2, x0] | _, _, _ => []) (fun us its ws => match us, its, ws with | [], [_, _], [x0, x1, x2] => [x1, x2, x0] | _, _, _ => [])
    (fun r1 r2 r3 => by (cases r1 with | nil => (cases r2 with | nil => exact .nil | cons e0 r2 => (cases r2 with | nil => exact .nil | cons e1 r2 => (cases r2 with | nil => (cases r3 with | nil => exact .nil | cons q0 r3 => (cases r3 with | nil => exact .nil | cons q1 r3 => (cases r3 with | nil => exact .nil | cons q2 r3 => (cases r3 with | nil => exact .cons q1 (.cons q2 (.cons q0 (.nil))) | cons _ _ => exact .nil)))) | cons _ _ => exact .nil))) | cons _ _ => exact .nil)) (fun T kV doc pm an cdv ct us its ws hi hl => match us, its, ws, hl with | [], [_, _], [_, _, _], _ => ⟨_, rfl, rfl⟩)
  let T : Txt w K mg := {
    a_is_whole := f0, d_is_whole := _, F_is_whole := F0, b_is_whole := F0.binds (ps := ["thing"]) (fun _ _ _ _ _ _ us hl => match us, hl with | [_], _ => rfl), g_is_whole := PySem.W.mg_of X G a0,
    a_is_minute := f1, d_is_minute := _, F_is_minute := F1, b_is_minute := F1.binds (ps := ["thing"]) (fun _ _ _ _ _ _ us hl => match us, hl with | [_], _ => rfl), g_is_minute := PySem.W.mg_of X G a1,
    a_is_order := f2, d_is_order := _, F_is_order := F2, b_is_order := F2.binds (ps := ["thing"]) (fun _ _ _ _ _ _ us hl => match us, hl with | [_], _ => rfl), g_is_order := PySem.W.mg_of X G a2,
    a_is_name := f3, d_is_name := _, F_is_name := F3, b_is_name := F3.binds (ps := ["thing"]) (fun _ _ _ _ _ _ us hl => match us, hl with | [_], _ => rfl), g_is_name := PySem.W.mg_of X G a3,
    a_is_row := f4, d_is_row := _, F_is_row := F4, b_is_row := F4.binds (ps := ["thing"]) (fun _ _ _ _ _ _ us hl => match us, hl with | [_], _ => rfl), g_is_row := PySem.W.mg_of X G a4,
    a_makes_row := f5, d_makes_row := _, F_makes_row := F5, b_makes_row := F5.binds (ps := ["thing"]) (fun _ _ _ _ _ _ us hl => match us, hl with | [_], _ => rfl), g_makes_row := PySem.W.mg_of X G a5,
    a_row_of := f6, d_row_of := _, F_row_of := F6, b_row_of := F6.binds (ps := ["thing"]) (fun _ _ _ _ _ _ us hl => match us, hl with | [_], _ => rfl), g_row_of := PySem.W.mg_of X G a6,
    a_sent_from := f7, d_sent_from := _, F_sent_from := F7, b_sent_from := F7.binds (ps := ["line"]) (fun _ _ _ _ _ _ us hl => match us, hl with | [_], _ => rfl), g_sent_from := PySem.W.mg_of X G a7,
    a_dial_of := f8, d_dial_of := _, F_dial_of := F8, b_dial_of := F8.binds (ps := ["engine"]) (fun _ _ _ _ _ _ us hl => match us, hl with | [_], _ => rfl), g_dial_of := PySem.W.mg_of X G a8,
    a_is_line := f9, d_is_line := _, F_is_line := F9, b_is_line := F9.binds (ps := ["thing"]) (fun _ _ _ _ _ _ us hl => match us, hl with | [_], _ => rfl), g_is_line := PySem.W.mg_of X G a9,
    a_is_log := f10, d_is_log := _, F_is_log := F10, b_is_log := F10.binds (ps := ["thing"]) (fun _ _ _ _ _ _ us hl => match us, hl with | [_], _ => rfl), g_is_log := PySem.W.mg_of X G a10,
    a_log_of := f11, d_log_of := _, F_log_of := F11, b_log_of := F11.binds (ps := ["rows"]) (fun _ _ _ _ _ _ us hl => match us, hl with | [_], _ => rfl), g_log_of := PySem.W.mg_of X G a11,
    a_wrong_at := f12, d_wrong_at := _, F_wrong_at := F12, b_wrong_at := F12.binds (ps := ["rows"]) (fun _ _ _ _ _ _ us hl => match us, hl with | [_], _ => rfl), g_wrong_at := PySem.W.mg_of X G a12,
    a_rows_on := f13, d_rows_on := _, F_rows_on := F13, b_rows_on := F13.binds (ps := ["log", "line"]) (fun _ _ _ _ _ _ us hl => match us, hl with | [_, _], _ => rfl), g_rows_on := PySem.W.mg_of X G a13,
    a_rows_between := f14, d_rows_between := _, F_rows_between := F14, ds1_rows_between := ds1_14, v1_rows_between := v1_14, b1_rows_between := b1_14, ds3_rows_between := ds3_14, v3_rows_between := v3_14, b3_rows_between := b3_14, g_rows_between := PySem.W.mg_of X G a14,
    a_draw := f15, d_draw := _, F_draw := F15, b_draw := F15.binds (ps := ["_law_pen", "_law_many"]) (fun _ _ _ _ _ _ us hl => match us, hl with | [_, _], _ => rfl), g_draw := PySem.W.mg_of X G a15,
    a_word := f16, d_word := _, F_word := F16, b_word := F16.binds (ps := ["_law_pen"]) (fun _ _ _ _ _ _ us hl => match us, hl with | [_], _ => rfl), g_word := PySem.W.mg_of X G a16,
    a_row := f17, d_row := _, F_row := F17, b_row := F17.binds (ps := ["_law_pen", "_law_minute_here", "_law_words"]) (fun _ _ _ _ _ _ us hl => match us, hl with | [_, _, _], _ => rfl), g_row := PySem.W.mg_of X G a17,
    a_log := f18, d_log := _, F_log := F18, b_log := F18.binds (ps := ["_law_pen", "_law_most"]) (fun _ _ _ _ _ _ us hl => match us, hl with | [_, _], _ => rfl), g_log := PySem.W.mg_of X G a18,
    a_on := f19, d_on := _, F_on := F19, b_on := F19.binds (ps := ["_law_book", "_law_bell"]) (fun _ _ _ _ _ _ us hl => match us, hl with | [_, _], _ => rfl), g_on := PySem.W.mg_of X G a19,
    a_in := f20, d_in := _, F_in := F20, b_in := F20.binds (ps := ["_law_book", "_law_low", "_law_high"]) (fun _ _ _ _ _ _ us hl => match us, hl with | [_, _, _], _ => rfl), g_in := PySem.W.mg_of X G a20,
    a_minute := f21, d_minute := _, F_minute := F21, b_minute := F21.binds (ps := ["_law_pen", "_law_book"]) (fun _ _ _ _ _ _ us hl => match us, hl with | [_, _], _ => rfl), g_minute := PySem.W.mg_of X G a21,
    a_lines_right := f22, d_lines_right := _, F_lines_right := F22, b_lines_right := F22.binds (ps := ["_law_book"]) (fun _ _ _ _ _ _ us hl => match us, hl with | [_], _ => rfl), g_lines_right := PySem.W.mg_of X G a22,
    a_named := f23, d_named := _, F_named := F23, b_named := F23.binds (ps := ["_law_book"]) (fun _ _ _ _ _ _ us hl => match us, hl with | [_], _ => rfl), g_named := PySem.W.mg_of X G a23,
    a_law := fa, d_law := _, F_law := F24, b_law := F24.binds (ps := ["_law_script"]) (fun _ _ _ _ _ _ us hl => match us, hl with | [_], _ => rfl), g_law := PySem.W.mg_of X G a24,
    kb0_rows_on := ⟨fun s us ws _ hl => (match us, ws, hl with | [], [_, _], _ => .of_eq rfl), fun r1 r2 => by (cases r1 with | nil => (cases r2 with | nil => exact .nil | cons q0 r2 => (cases r2 with | nil => exact .nil | cons q1 r2 => (cases r2 with | nil => exact .cons q1 (.cons q0 (.nil)) | cons _ _ => exact .nil))) | cons _ _ => exact .nil)⟩,
    kb0_is_log := ⟨fun s us ws _ hl => (match us, ws, hl with | [], [_], _ => .of_eq rfl), fun r1 r2 => by (cases r1 with | nil => (cases r2 with | nil => exact .nil | cons q0 r2 => (cases r2 with | nil => exact .cons q0 (.nil) | cons _ _ => exact .nil)) | cons _ _ => exact .nil)⟩,
    kb0_log_of := ⟨fun s us ws _ hl => (match us, ws, hl with | [], [_], _ => .of_eq rfl), fun r1 r2 => by (cases r1 with | nil => (cases r2 with | nil => exact .nil | cons q0 r2 => (cases r2 with | nil => exact .cons q0 (.nil) | cons _ _ => exact .nil)) | cons _ _ => exact .nil)⟩,
    kb0_dial_of := ⟨fun s us ws _ hl => (match us, ws, hl with | [], [_], _ => .of_eq rfl), fun r1 r2 => by (cases r1 with | nil => (cases r2 with | nil => exact .nil | cons q0 r2 => (cases r2 with | nil => exact .cons q0 (.nil) | cons _ _ => exact .nil)) | cons _ _ => exact .nil)⟩,
    kb0_sent_from := ⟨fun s us ws _ hl => (match us, ws, hl with | [], [_], _ => .of_eq rfl), fun r1 r2 => by (cases r1 with | nil => (cases r2 with | nil => exact .nil | cons q0 r2 => (cases r2 with | nil => exact .cons q0 (.nil) | cons _ _ => exact .nil)) | cons _ _ => exact .nil)⟩,
    kb0_is_row := ⟨fun s us ws _ hl => (match us, ws, hl with | [], [_], _ => .of_eq rfl), fun r1 r2 => by (cases r1 with | nil => (cases r2 with | nil => exact .nil | cons q0 r2 => (cases r2 with | nil => exact .cons q0 (.nil) | cons _ _ => exact .nil)) | cons _ _ => exact .nil)⟩,
    kb0_row_of := ⟨fun s us ws _ hl => (match us, ws, hl with | [], [_], _ => .of_eq rfl), fun r1 r2 => by (cases r1 with | nil => (cases r2 with | nil => exact .nil | cons q0 r2 => (cases r2 with | nil => exact .cons q0 (.nil) | cons _ _ => exact .nil)) | cons _ _ => exact .nil)⟩,
    it0_rows_between := it0_14, kb0_rows_between := kb0_14,
    it1_rows_between := it1_14, kb1_rows_between := kb1_14,
    it2_rows_between := it2_14, kb2_rows_between := kb2_14,
    z_abs := PySem.W.mg_none_of X G z_abs,
    z_all := PySem.W.mg_none_of X G z_all,
    z_bool := PySem.W.mg_none_of X G z_bool,
    z_enumerate := PySem.W.mg_none_of X G z_enumerate,
    z_int := PySem.W.mg_none_of X G z_int,
    z_isinstance := PySem.W.mg_none_of X G z_isinstance,
    z_len := PySem.W.mg_none_of X G z_len,
    z_list := PySem.W.mg_none_of X G z_list,
    z_min := PySem.W.mg_none_of X G z_min,
    z_range := PySem.W.mg_none_of X G z_range,
    z_repr := PySem.W.mg_none_of X G z_repr,
    z_str := PySem.W.mg_none_of X G z_str,
    z_tuple := PySem.W.mg_none_of X G z_tuple,
    D_DIALS := D_DIALS, c_DIALS := PySem.W.mg_of X G m_DIALS, es_DIALS := es_DIALS, n_DIALS := n_DIALS, kD_DIALS := ⟨kl_DIALS, kk_DIALS, ks_DIALS⟩, ki_DIALS := fun p hp => (List.mem_cons.mp hp).elim (fun e => e ▸ ⟨_, ki0_DIALS, ⟨_, rfl⟩⟩) (fun hp => (List.mem_cons.mp hp).elim (fun e => e ▸ ⟨_, ki1_DIALS, ⟨_, rfl⟩⟩) (fun hp => nomatch hp)), kd_DIALS := fun p hp => (List.mem_cons.mp hp).elim (fun e => e ▸ ⟨es_DIALS, n_DIALS, _, kl_DIALS, kk_DIALS, ki0_DIALS, ⟨_, rfl⟩⟩) (fun hp => (List.mem_cons.mp hp).elim (fun e => e ▸ ⟨es_DIALS, n_DIALS, _, kl_DIALS, kk_DIALS, ki1_DIALS, ⟨_, rfl⟩⟩) (fun hp => nomatch hp)),
    t_FULL_AHEAD := t_FULL_AHEAD, c_FULL_AHEAD := PySem.W.mg_of X G m_FULL_AHEAD,
    t_FULL_ASTERN := t_FULL_ASTERN, c_FULL_ASTERN := PySem.W.mg_of X G m_FULL_ASTERN,
    t_LAST_MINUTE := t_LAST_MINUTE, c_LAST_MINUTE := PySem.W.mg_of X G m_LAST_MINUTE,
    t_LONGEST_NAME := t_LONGEST_NAME, c_LONGEST_NAME := PySem.W.mg_of X G m_LONGEST_NAME,
    t_MOST_ROWS := t_MOST_ROWS, c_MOST_ROWS := PySem.W.mg_of X G m_MOST_ROWS,
    D_SENDERS := D_SENDERS, c_SENDERS := PySem.W.mg_of X G m_SENDERS, es_SENDERS := es_SENDERS, n_SENDERS := n_SENDERS, kD_SENDERS := ⟨kl_SENDERS, kk_SENDERS, ks_SENDERS⟩, ki_SENDERS := fun p hp => (List.mem_cons.mp hp).elim (fun e => e ▸ ⟨_, ki0_SENDERS, ⟨_, rfl⟩⟩) (fun hp => (List.mem_cons.mp hp).elim (fun e => e ▸ ⟨_, ki1_SENDERS, ⟨_, rfl⟩⟩) (fun hp => (List.mem_cons.mp hp).elim (fun e => e ▸ ⟨_, ki2_SENDERS, ⟨_, rfl⟩⟩) (fun hp => (List.mem_cons.mp hp).elim (fun e => e ▸ ⟨_, ki3_SENDERS, ⟨_, rfl⟩⟩) (fun hp => (List.mem_cons.mp hp).elim (fun e => e ▸ ⟨_, ki4_SENDERS, ⟨_, rfl⟩⟩) (fun hp => (List.mem_cons.mp hp).elim (fun e => e ▸ ⟨_, ki5_SENDERS, ⟨_, rfl⟩⟩) (fun hp => nomatch hp)))))), kd_SENDERS := fun p hp => (List.mem_cons.mp hp).elim (fun e => e ▸ ⟨es_SENDERS, n_SENDERS, _, kl_SENDERS, kk_SENDERS, ki0_SENDERS, ⟨_, rfl⟩⟩) (fun hp => (List.mem_cons.mp hp).elim (fun e => e ▸ ⟨es_SENDERS, n_SENDERS, _, kl_SENDERS, kk_SENDERS, ki1_SENDERS, ⟨_, rfl⟩⟩) (fun hp => (List.mem_cons.mp hp).elim (fun e => e ▸ ⟨es_SENDERS, n_SENDERS, _, kl_SENDERS, kk_SENDERS, ki2_SENDERS, ⟨_, rfl⟩⟩) (fun hp => (List.mem_cons.mp hp).elim (fun e => e ▸ ⟨es_SENDERS, n_SENDERS, _, kl_SENDERS, kk_SENDERS, ki3_SENDERS, ⟨_, rfl⟩⟩) (fun hp => (List.mem_cons.mp hp).elim (fun e => e ▸ ⟨es_SENDERS, n_SENDERS, _, kl_SENDERS, kk_SENDERS, ki4_SENDERS, ⟨_, rfl⟩⟩) (fun hp => (List.mem_cons.mp hp).elim (fun e => e ▸ ⟨es_SENDERS, n_SENDERS, _, kl_SENDERS, kk_SENDERS, ki5_SENDERS, ⟨_, rfl⟩⟩) (fun hp => nomatch hp)))))),
    D_TUBES := D_TUBES, c_TUBES := PySem.W.mg_of X G m_TUBES, kt_TUBES := fun H => .inr ⟨_, its_TUBES, tn_TUBES, lt_TUBES, rfl, rfl, (Nat.le_trans (Nat.le_of_eq (show its_TUBES.size = 2 by simpa using vv_TUBES.length.symm)) (by decide)), vv_TUBES⟩ }
  exact ⟨PySem.W.fnOf "law" "law" (defArgs s_law) (defBody s_law) (defScope s_law) .none kV24 dc24 pm24 an24 cd24 ct24, fun s v => .of_eq rfl, fun base _ _ => ok_law T⟩
end RO
open PySem PySem.W PyProof.Rows in
set_option maxRecDepth 100000 in
set_option maxHeartbeats 0 in
theorem PySem.Challenge.cw_ringorders_k06_rows_on_lines_holds : PySem.Challenge.rw_ringorders_k06_rows_on_lines.Holds := by
  w_on; o_law; k_head; (case hw => w_witness2)
  k_fill
  refine RO.walk_G (l := PySem.Challenge.rw_ringorders_k06_rows_on_lines) (n := 63) (k := 7) (x := "_law_script") (sp := RO.spLaw) rfl (by decide) rfl ⟨rfl, by decide, by decide⟩ (fun w h Y => PySem.W.kIn_of Y) ?F RO.law_in
  case F =>
    intro w mg fa h KX G hmg
    refine' RO.all_mk KX G hmg ?a0 ?l0 ?c0 ?k0 ?a1 ?l1 ?c1 ?k1 ?a2 ?l2 ?c2 ?k2 ?a3 ?l3 ?c3 ?k3 ?a4 ?l4 ?c4 ?k4 ?a5 ?l5 ?c5 ?k5 ?a6 ?l6 ?c6 ?k6 ?a7 ?l7 ?c7 ?k7 ?a8 ?l8 ?c8 ?k8 ?a9 ?l9 ?c9 ?k9 ?a10 ?l10 ?c10 ?k10 ?a11 ?l11 ?c11 ?k11 ?a12 ?l12 ?c12 ?k12 ?a13 ?l13 ?c13 ?k13 ?a14 ?l14 ?c14 ?k14 ?lt14 ?vt14 ?a15 ?l15 ?c15 ?k15 ?a16 ?l16 ?c16 ?k16 ?a17 ?l17 ?c17 ?k17 ?a18 ?l18 ?c18 ?k18 ?a19 ?l19 ?c19 ?k19 ?a20 ?l20 ?c20 ?k20 ?a21 ?l21 ?c21 ?k21 ?a22 ?l22 ?c22 ?k22 ?a23 ?l23 ?c23 ?k23 ?a24 ?l24 ?c24 ?k24 ?z_abs ?z_all ?z_bool ?z_enumerate ?z_int ?z_isinstance ?z_len ?z_list ?z_min ?z_range ?z_repr ?z_str ?z_tuple ?m_DIALS ?kl_DIALS ?kk_DIALS ?ks_DIALS ?ki0_DIALS ?ki1_DIALS ?m_FULL_AHEAD ?m_FULL_ASTERN ?m_LAST_MINUTE ?m_LONGEST_NAME ?m_MOST_ROWS ?m_SENDERS ?kl_SENDERS ?kk_SENDERS ?ks_SENDERS ?ki0_SENDERS ?ki1_SENDERS ?ki2_SENDERS ?ki3_SENDERS ?ki4_SENDERS ?ki5_SENDERS ?m_TUBES ?lt_TUBES ?vv_TUBES
    (case a0 => k_is)
    (case l0 => k_is)
    (case c0 => k_is)
    (case k0 => k_is)
    (case a1 => k_is)
    (case l1 => k_is)
    (case c1 => k_is)
    (case k1 => k_is)
    (case a2 => k_is)
    (case l2 => k_is)
    (case c2 => k_is)
    (case k2 => k_is)
    (case a3 => k_is)
    (case l3 => k_is)
    (case c3 => k_is)
    (case k3 => k_is)
    (case a4 => k_is)
    (case l4 => k_is)
    (case c4 => k_is)
    (case k4 => k_is)
    (case a5 => k_is)
    (case l5 => k_is)
    (case c5 => k_is)
    (case k5 => k_is)
    (case a6 => k_is)
    (case l6 => k_is)
    (case c6 => k_is)
    (case k6 => k_is)
    (case a7 => k_is)
    (case l7 => k_is)
    (case c7 => k_is)
    (case k7 => k_is)
    (case a8 => k_is)
    (case l8 => k_is)
    (case c8 => k_is)
    (case k8 => k_is)
    (case a9 => k_is)
    (case l9 => k_is)
    (case c9 => k_is)
    (case k9 => k_is)
    (case a10 => k_is)
    (case l10 => k_is)
    (case c10 => k_is)
    (case k10 => k_is)
    (case a11 => k_is)
    (case l11 => k_is)
    (case c11 => k_is)
    (case k11 => k_is)
    (case a12 => k_is)
    (case l12 => k_is)
    (case c12 => k_is)
    (case k12 => k_is)
    (case a13 => k_is)
    (case l13 => k_is)
    (case c13 => k_is)
    (case k13 => k_is)
    (case a14 => k_is)
    (case l14 => k_is)
    (case c14 => k_is)
    (case k14 => k_is)
    (case lt14 => k_is)
    (case vt14 => exact .cons ⟨_, rfl⟩ (.cons ⟨_, rfl⟩ (.nil)))
    (case a15 => k_is)
    (case l15 => k_is)
    (case c15 => k_is)
    (case k15 => k_is)
    (case a16 => k_is)
    (case l16 => k_is)
    (case c16 => k_is)
    (case k16 => k_is)
    (case a17 => k_is)
    (case l17 => k_is)
    (case c17 => k_is)
    (case k17 => k_is)
    (case a18 => k_is)
    (case l18 => k_is)
    (case c18 => k_is)
    (case k18 => k_is)
    (case a19 => k_is)
    (case l19 => k_is)
    (case c19 => k_is)
    (case k19 => k_is)
    (case a20 => k_is)
    (case l20 => k_is)
    (case c20 => k_is)
    (case k20 => k_is)
    (case a21 => k_is)
    (case l21 => k_is)
    (case c21 => k_is)
    (case k21 => k_is)
    (case a22 => k_is)
    (case l22 => k_is)
    (case c22 => k_is)
    (case k22 => k_is)
    (case a23 => k_is)
    (case l23 => k_is)
    (case c23 => k_is)
    (case k23 => k_is)
    (case a24 => k_is)
    (case l24 => k_is)
    (case c24 => k_is)
    (case k24 => k_is)
    (case z_abs => k_is)
    (case z_all => k_is)
    (case z_bool => k_is)
    (case z_enumerate => k_is)
    (case z_int => k_is)
    (case z_isinstance => k_is)
    (case z_len => k_is)
    (case z_list => k_is)
    (case z_min => k_is)
    (case z_range => k_is)
    (case z_repr => k_is)
    (case z_str => k_is)
    (case z_tuple => k_is)
    (case m_DIALS => k_is)
    (case kl_DIALS => k_is)
    (case kk_DIALS => k_keys)
    (case ks_DIALS => (first | rfl | decide +kernel))
    (case ki0_DIALS => k_is)
    (case ki1_DIALS => k_is)
    (case m_FULL_AHEAD => k_is)
    (case m_FULL_ASTERN => k_is)
    (case m_LAST_MINUTE => k_is)
    (case m_LONGEST_NAME => k_is)
    (case m_MOST_ROWS => k_is)
    (case m_SENDERS => k_is)
    (case kl_SENDERS => k_is)
    (case kk_SENDERS => k_keys)
    (case ks_SENDERS => (first | rfl | decide +kernel))
    (case ki0_SENDERS => k_is)
    (case ki1_SENDERS => k_is)
    (case ki2_SENDERS => k_is)
    (case ki3_SENDERS => k_is)
    (case ki4_SENDERS => k_is)
    (case ki5_SENDERS => k_is)
    (case m_TUBES => k_is)
    (case lt_TUBES => k_is)
    (case vv_TUBES => exact .cons ⟨_, rfl⟩ (.cons ⟨_, rfl⟩ (.nil)))
